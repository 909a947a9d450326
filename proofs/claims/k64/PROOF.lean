import PyProof.Rows.All
import Wide.All
import OpenK.AllK
import Wide.FinOn
import KE.KDictOf
import KE.KDictSum
import KE.KIntText
import KE.KRevIter
import OpenK.KOwn
import PyProof.AttrMissHeap
import PyProof.AutoSeq1
import PyProof.CodeObj
import PyProof.CollectWalk
import PyProof.ConsumeWalk
import PyProof.Conv_int_bool
import PyProof.DictIter
import PyProof.DictKinds
import PyProof.DictUpdate
import PyProof.Draws
import PyProof.EnumIter
import PyProof.EnumMake
import PyProof.EqAt
import PyProof.EqKinds
import PyProof.ExcArgsOwn
import PyProof.FactsAll.dict_1
import PyProof.FactsAll.set
import PyProof.FactsAll.set_2
import PyProof.ListMulRoad
import PyProof.ListNew
import PyProof.ListStr
import PyProof.NeData
import PyProof.P3In
import PyProof.Rows.DictSet
import PyProof.Rows.Range3
import PyProof.Rows.SetFrom
import PyProof.Rows.SortShell
import PyProof.Rows.SortStr
import PyProof.Rows.SortWalk
import PyProof.SeqI3
import PyProof.SetKind
import PyProof.StrOps2
import PyProof.StrWalks
import PyProof.TupleCall
import PyProof.TupleOps
import PyProof.Walks
import PyProof.WalksMore
import PyProof.WalksS
import PyProof.ZipIter
import Lean
import PySem.Challenge.RW_piecebooks_k64_whole_streams
set_option Elab.async false
set_option linter.all false
set_option maxRecDepth 100000
namespace L2
open PySem PySem.Spec PyProof.Rows
abbrev Key:=Sum Int Str
def keyIs:Key→Value→Bool
 | .inl k,v=>Value.isInt k v
 | .inr x,v=>Value.isStrOf x v
def keyH (w:World):Key→Int
 | .inl k=>hashInt k
 | .inr x=>hashStr w x
theorem yK:∀{k:Key}{v:Value},keyIs k v=true→(∃i t,k=Sum.inl i∧v=Value.int i t)∨(∃x t,k=Sum.inr x∧v=Value.str x t)
 | .inl i,v,h=>by
  obtain⟨t,e⟩:=Value.isInt_shape (k:=i) (v:=v) h
  exact .inl ⟨i,t,rfl,e⟩
 | .inr x,v,h=>by
  obtain⟨t,e⟩:=Value.isStrOf_shape (x:=x) (v:=v) h
  exact .inr ⟨x,t,rfl,e⟩
theorem keyIs_int (i:Int)(t:Tok):keyIs (.inl i) (.int i t)=true:=by simp[keyIs,Value.isInt]
theorem keyIs_str (x:Str)(t:Tok):keyIs (.inr x) (.str x t)=true:=by simp[keyIs,Value.isStrOf]
theorem key_ll (a b:Int):decide ((Sum.inl a:Key)=Sum.inl b)=(a == b):=by
 by_cases e:a=b
 ·subst e;simp
 ·have h:¬(Sum.inl a:Key)=Sum.inl b:=fun q=>e (Sum.inl.inj q)
  rw[decide_eq_false h]
  exact(beq_eq_false_iff_ne.mpr e).symm
theorem key_rr (a b:Str):decide ((Sum.inr a:Key)=Sum.inr b)=decide (a=b):=by
 by_cases e:a=b
 ·subst e;simp
 ·have h:¬(Sum.inr a:Key)=Sum.inr b:=fun q=>e (Sum.inr.inj q)
  rw[decide_eq_false h,decide_eq_false e]
theorem key_lr (a:Int)(b:Str):decide ((Sum.inl a:Key)=Sum.inr b)=false:=decide_eq_false (fun q=>nomatch q)
theorem key_rl (a:Str)(b:Int):decide ((Sum.inr a:Key)=Sum.inl b)=false:=decide_eq_false (fun q=>nomatch q)
def vA (prog:Program)(w:World):PySem.KeyKind prog w Key where
 is:=keyIs
 hash:=keyH w
 inj:=fun v a b ha hb=>by
  rcases yK ha with⟨i,t,rfl,rfl⟩|⟨x,t,rfl,rfl⟩
  ·rcases yK hb with⟨j,u,rfl,e⟩|⟨y,u,rfl,e⟩
   ·injection e with e1 _;rw[e1]
   ·exact nomatch e
  ·rcases yK hb with⟨j,u,rfl,e⟩|⟨y,u,rfl,e⟩
   ·exact nomatch e
   ·injection e with e1 _;rw[e1]
 byValue:=fun k v h=>by
  rcases yK h with⟨i,t,rfl,rfl⟩|⟨x,t,rfl,rfl⟩ <;>rfl
 pyHash:=fun hv h=>by
  rcases yK hv with⟨i,t,rfl,rfl⟩|⟨x,t,rfl,rfl⟩
  ·exact wpAny_pyHash_int h
  ·exact wpAny_pyHash_str h
 eqBool:=fun hu hv h=>by
  rcases yK hu with⟨i,t,rfl,rfl⟩|⟨x,t,rfl,rfl⟩
  ·rcases yK hv with⟨j,u,rfl,rfl⟩|⟨y,u,rfl,rfl⟩
   ·rw[key_ll] at h;exact wpAny_eqBool_int h
   ·rw[key_lr] at h;exact SeqAt.EqAt.int_str i t y u _ _ _ _ h
  ·rcases yK hv with⟨j,u,rfl,rfl⟩|⟨y,u,rfl,rfl⟩
   ·rw[key_rl] at h;exact SeqAt.EqAt.str_int x t j u _ _ _ _ h
   ·rw[key_rr] at h;exact wpAny_eqBool_str h
 «strs»:=fun k x t v h=>by
  rcases yK h with⟨i,u,rfl,e⟩|⟨y,u,rfl,e⟩
  ·exact nomatch e
  ·injection e with e1 _
   subst e1
   cases v <;>rfl
theorem mixKind_int (prog:Program)(w:World)(i:Int)(t:Tok):(vA prog w).is (.inl i) (.int i t)=true:=keyIs_int i t
theorem zbf (prog:Program)(w:World)(x:Str)(t:Tok):(vA prog w).is (.inr x) (.str x t)=true:=keyIs_str x t
end L2
namespace L2
open PySem PySem.Spec PyProof.Rows
inductive V where
 | non|bl (b:Bool)|int (i:Int)|str (x:Str)|byt (b:Array UInt8)|flt (b:UInt64)|ref (a:Addr)|ty (n:String)
 deriving DecidableEq
def RelV:V→Value→Prop
 | .non,u=>u=Value.none
 | .bl b,u=>u=Value.bool b
 | .int i,u=>∃t,u=Value.int i t
 | .str x,u=>∃t,u=Value.str x t
 | .byt b,u=>∃t,u=Value.bytes b t
 | .flt b,u=>∃t,u=Value.float b t
 | .ref a,u=>u=Value.ref a
 | .ty n,u=>u=Value.type n
abbrev Vals:List V→List Value→Prop:=Paired RelV
theorem Vals.length {xs:List V}{us:List Value}(r:Vals xs us):xs.length=us.length:=Paired.length r
theorem Vals.get:∀{xs:List V}{us:List Value}{i:Nat}{x:V},Vals xs us→xs[i]? = some x→∃u,us[i]? = some u∧RelV x u
 | _,_,_,_,.nil,e=>by simp at e
 | _,_,0,_,.cons r _,e=>by simp at e;subst e;exact⟨_,rfl,r⟩
 | _,_,i+1,x,.cons _ t,e=>by
  obtain⟨u,h1,h2⟩:=Vals.get (i:=i) (x:=x) t (by simpa using e)
  exact⟨u,by simpa using h1,h2⟩
theorem Vals.set {x:V}{u:Value}(r:RelV x u):∀{xs:List V}{us:List Value} (i:Nat),Vals xs us→Vals (xs.set i x) (us.set i u)
 | _,_,_,.nil=>.nil
 | _,_,0,.cons _ t=>.cons r t
 | _,_,i+1,.cons q t=>.cons q (Vals.set r i t)
theorem Vals.append:∀{xs ys:List V}{us ws:List Value},Vals xs us→Vals ys ws→Vals (xs++ys) (us++ws):=by
 intro xs ys us ws h k
 induction h with
 | nil=>exact k
 | cons r t ih=>exact .cons r ih
theorem Vals.take:∀{xs:List V}{us:List Value} (n:Nat),Vals xs us→Vals (xs.take n) (us.take n)
 | _,_,0,_=>.nil
 | _,_,_+1,.nil=>.nil
 | _,_,n+1,.cons r t=>.cons r (Vals.take n t)
theorem Vals.drop:∀{xs:List V}{us:List Value} (n:Nat),Vals xs us→Vals (xs.drop n) (us.drop n)
 | _,_,0,r=>r
 | _,_,_+1,.nil=>.nil
 | _,_,n+1,.cons _ t=>Vals.drop n t
def RelO:Option V→Option Value→Prop
 | some v,some u=>RelV v u
 | none,none=>True
 | _,_=>False
def KV {κ:Type}:List (κ×V)→List (κ×Value)→Prop:=Paired fun(p:κ×V) (q:κ×Value)=>p.1=q.1∧RelV p.2 q.2
def kV:Key→V
 | .inl i=>.int i
 | .inr x=>.str x
inductive HO where
 /-- a list -/
 | lst (xs:List V)
 /-- a tuple (never changes) -/
 | tup (xs:List V)
 /-- a dict whose keys are ints and texts; one whose keys are tuples of ints and texts (the empty one is both) -/
 | dK (kvs:List (Key×V))|dT (kvs:List (List Key×V))
 /-- a set of ints: its members, its size -/
 | set (S:Int→Bool) (n:Nat)
 /-- an instance of the class at C, its dict at dx, its attributes -/
 | ins (C dx:Addr) (fs:List (Str×V))
 /-- the dict of the instance at x -/
 | own (x:Addr)
 /-- the dict of an exception -/
 | xd (fs:List (Str×V))
 /-- a bound method, f of x -/
 | met (f x:Addr)
 /-- a range object lo, lo + 1, .. below hi -/
 | rng (lo hi:Int)
 /-- a thing that is known to the object (the script; a dict while a loop walks it): read, never written while it is so -/
 | frz (o:Obj) (u:HO)
 /-- a code object's table -/
 | tbl (ps:Array Value)
 /-- any other thing, by what is true of its one object (a def of one's own: SetO a S n := HO.ext fun h => ..) -/
 | ext (φ:Heap→Prop)
abbrev Hp:=Addr→Option HO
def upd (H:Hp)(a:Addr)(o:HO):Hp:=fun b=>if b=a then some o else H b
theorem zM {H:Hp}{a:Addr}{o:HO}:upd H a o a=some o:=by unfold upd;rw[if_pos rfl]
theorem zJ {H:Hp}{a b:Addr}{o:HO}(h:b≠a):upd H a o b=H b:=by unfold upd;rw[if_neg h]
theorem wL {H:Hp}{a b:Addr}{o:HO}(h:H a=some o)(h':H b=none):a≠b:=by
 intro e;subst e;rw[h] at h';cases h'
def TupD (h:Heap)(a:Addr)(items:Array Value):Prop:=∃o,h.get? a=some o∧o.cls=.type "tuple" ∧ (∃n,o.data=.seq items n)∧o.dict=none
theorem TupD.tup {h:Heap}{a:Addr}{items:Array Value}(x:TupD h a items):IsTup h a items:=let ⟨o,e,c,d,_⟩:=x;⟨o,e,c,d⟩
theorem TupD.new (h:Heap)(items:Array Value):TupD (h.push {cls:=.type "tuple", data:=.seq items}) h.objs.size items:=⟨_,Heap.get?_push_size _ rfl,rfl,⟨_,rfl⟩,rfl⟩
section
variable (P:Program)(w:World)
def ObjOk (H:Hp)(h:Heap)(a:Addr):HO→Prop
 | .lst xs=>xs.length≤sizeLine∧∃(its:List Value) (n:Nat),Vals xs its∧h.get? a=some {cls:=.type "list", data:=.seq its.toArray n}
 | .tup xs=>xs.length≤sizeLine∧∃its:List Value,Vals xs its∧TupD h a its.toArray
 | .dK kvs=>kvs.length≤sizeLine∧(a == sysModules)=false∧∃vs,KV kvs vs∧h.DictOf (vA P w) a vs
 | .dT kvs=>kvs.length≤sizeLine∧(a == sysModules)=false∧∃xs:List (List Key×Addr×Value),
   Paired (fun(p:List Key×V) (q:List Key×Addr×Value)=>p.1=q.1∧H q.2.1=some (.tup (p.1.map kV))∧RelV p.2 q.2.2) kvs xs ∧
   ∃o es ep,h.get? a=some o∧o.ExactDict∧o.data=.dict es ep∧es.toList=xs.map (entryOfKey (tupleKind (vA P w)))∧(xs.map (·.1)).Nodup
 | .set S n=>h.SetOf (intKind P w) a S n
 | .ins C dx fs=>H dx=some (.own a)∧fs.length≤1000∧dx≠a∧h.get? a=some (PySem.W.instObj C dx) ∧
   ∃mA,h.Ns1 dx mA∧(∀f,RelO (fs.lookup f) (mA f))∧PySem.Within mA (fs.map (·.1))
 | .own _=>∃o,h.get? a=some o
 | .xd fs=>∃mA,h.Ns1 a mA∧∀f,RelO (fs.lookup f) (mA f)
 | .rng lo hi=>∃t u v,h.get? a=some {cls:=.type "range", data:=.fields #[.int lo t,.int hi u,.int 1 v]}
 | .frz o u=>h.get? a=some o∧ObjOk H h a u
 | .tbl ps=>h.get? a=some {cls:=.none,data:=.fields ps}
 | .met f x=>h.get? a=some (PySem.W.methodObj (.ref f) (.ref x))
 | .ext φ=>φ h∧(∃o,h.get? a=some o)∧∀h1 h2:Heap,φ h1→(∀o,h1.get? a=some o→h2.get? a=some o)→φ h2
def HOk (H:Hp)(h:Heap):Prop:=∀a o,H a=some o→ObjOk P w H h a o
end
section
variable {P:Program}{w:World}{H H':Hp}{h h':Heap}{a:Addr}{o:HO}
theorem ObjOk.lt (x:ObjOk P w H h a o):a<h.objs.size:=by
 cases o with
 | lst xs=>obtain⟨_,_,_,_,e⟩:=x;exact Heap.lt_size e
 | tup xs=>obtain⟨_,_,_,p⟩:=x;exact p.tup.lt
 | dK kvs=>obtain⟨_,_,_,_,o,_,_,e,_⟩:=x;exact Heap.lt_size e
 | dT kvs=>obtain⟨_,_,_,_,o,_,_,e,_⟩:=x;exact Heap.lt_size e
 | set S n=>obtain⟨o,_,_,_,e,_⟩:=x;exact Heap.lt_size e
 | ins C dx fs=>obtain⟨_,_,_,e,_⟩:=x;exact Heap.lt_size e
 | own y=>obtain⟨_,e⟩:=x;exact Heap.lt_size e
 | xd fs=>obtain⟨_,⟨_,_,_,e,_⟩,_⟩:=x;exact Heap.lt_size e
 | rng lo hi=>obtain⟨_,_,_,e⟩:=x;exact Heap.lt_size e
 | frz ob u=>obtain⟨e,_⟩:=x;exact Heap.lt_size e
 | tbl ps=>exact Heap.lt_size (show h.get? a=some _ from x)
 | met f y=>exact Heap.lt_size (show h.get? a=some _ from x)
 | ext φ=>obtain⟨_,⟨_,e⟩,_⟩:=x;exact Heap.lt_size e
theorem Paired.mapP {α β:Type}{F G:α→β→Prop}:∀{l₁:List α}{l₂:List β},Paired F l₁ l₂→(∀a b,F a b→G a b)→Paired G l₁ l₂
 | _,_,.nil,_=>.nil
 | _,_,.cons r t,f=>.cons (f _ _ r) (Paired.mapP t f)
theorem ObjOk.stay (x:ObjOk P w H h a o)(k:∀b u,(b=a∨H b=some (.own a))→h.get? b=some u→h'.get? b=some u)
  (ho:∀b,H b=some (.own a)→H' b=some (.own a)) (ht:∀b xs,H b=some (.tup xs)→H' b=some (.tup xs)):ObjOk P w H' h' a o:=by
 induction o with
 | lst xs=>obtain⟨z,its,n,r,e⟩:=x;exact⟨z,its,n,r,k _ _ (.inl rfl) e⟩
 | tup xs=>obtain⟨z,its,r,ob,e,c⟩:=x;exact⟨z,its,r,ob,k _ _ (.inl rfl) e,c⟩
 | dK kvs=>obtain⟨z,y,vs,r,ob,es,ep,e,c⟩:=x;exact⟨z,y,vs,r,ob,es,ep,k _ _ (.inl rfl) e,c⟩
 | dT kvs =>
  obtain⟨z,y,xs,r,ob,es,ep,e,c⟩:=x
  exact⟨z,y,xs,Paired.mapP r fun p q z=>⟨z.1,ht _ _ z.2.1,z.2.2⟩,ob,es,ep,k _ _ (.inl rfl) e,c⟩
 | set S n=>obtain⟨ob,es,ep,t,e,c⟩:=x;exact⟨ob,es,ep,t,k _ _ (.inl rfl) e,c⟩
 | ins C dx fs =>
  obtain⟨d,z,ne,e,mA,⟨od,es,ep,e2,c⟩,r⟩:=x
  exact⟨ho _ d,z,ne,k _ _ (.inl rfl) e,mA,⟨od,es,ep,k _ _ (.inr d) e2,c⟩,r⟩
 | own y=>obtain⟨ob,e⟩:=x;exact⟨ob,k _ _ (.inl rfl) e⟩
 | xd fs=>obtain⟨mA,⟨od,es,ep,e,c⟩,r⟩:=x;exact⟨mA,⟨od,es,ep,k _ _ (.inl rfl) e,c⟩,r⟩
 | rng lo hi=>obtain⟨t,u,v,e⟩:=x;exact⟨t,u,v,k _ _ (.inl rfl) e⟩
 | frz ob u ih=>obtain⟨e,q⟩:=x;exact⟨k _ _ (.inl rfl) e,ih q⟩
 | tbl ps =>
  have e:h.get? a=some {cls:=.none,data:=.fields ps}:=x
  show h'.get? a=some {cls:=.none,data:=.fields ps}
  exact k a _ (.inl rfl) e
 | met f y =>
  have e:h.get? a=some (PySem.W.methodObj (.ref f) (.ref y)):=x
  show h'.get? a=some (PySem.W.methodObj (.ref f) (.ref y))
  exact k a _ (.inl rfl) e
 | ext φ=>obtain⟨p,⟨o,e⟩,st⟩:=x;exact⟨st _ _ p fun o q=>k _ _ (.inl rfl) q,⟨o,k _ _ (.inl rfl) e⟩,st⟩
theorem HOk.lt (x:HOk P w H h)(e:H a=some o):a<h.objs.size:=(x a o e).lt
theorem HOk.fresh (x:HOk P w H h)(e:h.objs.size≤a):H a=none:=by
 cases q:H a with
 | none=>rfl
 | some u=>exact absurd (Nat.lt_of_lt_of_le (x.lt q) e) (Nat.lt_irrefl _)
theorem HOk.kept (x:HOk P w H h)(k:∀b u,h.get? b=some u→h'.get? b=some u):HOk P w H h':=fun a o e =>
 (x a o e).stay (fun b u _ q=>k b u q) (fun _ q=>q) fun _ _ q=>q
theorem HOk.laid (x:HOk P w H h)(k:∀b u,h.get? b=some u→h'.get? b=some u)(hp:h.objs.size≤a)(new:ObjOk P w (upd H a o) h' a o):HOk P w (upd H a o) h':=fun b u e=>by
 have hn:=x.fresh hp
 by_cases hb:b=a
 ·subst hb;rw[zM] at e;cases e;exact new
 ·rw[zJ hb] at e
  exact(x b u e).stay (fun c v _ q=>k c v q) (fun c q=>by rw[zJ (wL q hn)];exact q) fun c xs q=>by rw[zJ (wL q hn)];exact q
end
def Rd (H:Hp)(a:Addr)(u:HO):Prop:=H a=some u∨∃o,H a=some (.frz o u)
theorem Rd.of {H:Hp}{a:Addr}{u:HO}(h:H a=some u):Rd H a u:=.inl h
theorem Rd.ok {P:Program}{w:World}{H:Hp}{h:Heap}{a:Addr}{u:HO}(r:Rd H a u)(x:HOk P w H h):ObjOk P w H h a u:=by
 rcases r with r|⟨o,r⟩
 ·exact x a u r
 ·obtain⟨_,q⟩:=x a _ r
  exact q
def Mut:Option HO→Prop
 | some (.lst _)=>True
 | some (.dK _)=>True
 | some (.dT _)=>True
 | some (.set _ _)=>True
 | some (.ins _ _ _)=>True
 | some (.ext _)=>True
 | _=>False
section
variable {P:Program}{w:World}{H:Hp}{h h':Heap}{x e:Addr}{o':HO}
theorem HOk.write (ok:HOk P w H h)(mu:Mut (H x))(he:e=x∨H e=some (.own x))(k:∀b u,b≠e→h.get? b=some u→h'.get? b=some u)(heo:∃u,h'.get? e=some u)
  (new:ObjOk P w (upd H x o') h' x o'):HOk P w (upd H x o') h':=fun b u q=>by
 have nown:∀c y,H c=some (.own y)→c≠x:=fun c y r z=>by subst z;rw[r] at mu;exact mu
 have ntup:∀c xs,H c=some (.tup xs)→c≠x:=fun c xs r z=>by subst z;rw[r] at mu;exact mu
 by_cases hb:b=x
 ·subst hb;rw[zM] at q;cases q;exact new
 ·rw [zJ hb] at q
  by_cases hbe:b=e
  ·have q':H b=some (.own x):=by
    rcases he with z|z
    ·exact absurd (hbe.trans z) hb
    ·rw[hbe];exact z
   rw[q] at q';cases q'
   obtain⟨v,hv⟩:=heo
   exact⟨v,by rw[hbe];exact hv⟩
  ·refine (ok b u q).stay (fun c v hc r=>k c v ?_ r) (fun c r=>by rw[zJ (nown c b r)];exact r) fun c xs r=>by rw[zJ (ntup c xs r)];exact r
   rcases hc with rfl|hc
   ·exact hbe
   ·rintro rfl
    rcases he with z|z
    ·exact nown c b hc z
    ·rw[hc] at z;cases z;exact hb rfl
end
structure Un (fs ex:List Addr)(H H':Hp)(h h':Heap):Prop where
 keep:∀b o,h.get? b=some o→H b=none→b∉fs→b∉ex→h'.get? b=some o
 slot:∀b o,h.get? b=some o→H b=none→b∈fs→b∉ex→∃sl,h'.get? b=some {o with slots:=sl}
 free:∀b o,h.get? b=some o→H b=none→b∉ex→H' b=none
 there:∀b o,h.get? b=some o→b∉ex→∃o',h'.get? b=some o'
 tups:∀b xs,H b=some (.tup xs)→H' b=some (.tup xs)
 frzs:∀b o u,H b=some (.frz o u)→H' b=some (.frz o u)
 tbls:∀b ps,H b=some (.tbl ps)→∃more,H' b=some (.tbl (ps++more))
section
variable {fs fs' ex ex':List Addr}{H H1 H2:Hp}{h h1 h2 h':Heap}{a x e:Addr}{o:HO}
theorem Un.any (u:Un fs ex H H1 h h1){b:Addr}{ob:Obj}(q:h.get? b=some ob)(n:H b=none)(hx:b∉ex):∃sl,h1.get? b=some {ob with slots:=sl}:=by
 by_cases hb:b∈fs
 ·exact u.slot b ob q n hb hx
 ·exact⟨ob.slots,u.keep b ob q n hb hx⟩
theorem Un.trans (a:Un fs ex H H1 h h1)(b:Un fs ex H1 H2 h1 h2):Un fs ex H H2 h h2 where
 keep:=fun c ob q n hc hx=>b.keep c ob (a.keep c ob q n hc hx) (a.free c ob q n hx) hc hx
 slot:=fun c ob q n hc hx=>by
  obtain⟨sl,e1⟩:=a.slot c ob q n hc hx
  obtain⟨sl',e2⟩:=b.slot c _ e1 (a.free c ob q n hx) hc hx
  exact⟨sl',e2⟩
 free:=fun c ob q n hx=>by
  obtain⟨o',e1⟩:=a.there c ob q hx
  exact b.free c o' e1 (a.free c ob q n hx) hx
 there:=fun c ob q hx=>by
  obtain⟨o',e1⟩:=a.there c ob q hx
  exact b.there c o' e1 hx
 tups:=fun c xs q=>b.tups c xs (a.tups c xs q)
 frzs:=fun c ob xs q=>b.frzs c ob xs (a.frzs c ob xs q)
 tbls:=fun c ps q=>by
  obtain⟨m1,e1⟩:=a.tbls c ps q
  obtain⟨m2,e2⟩:=b.tbls c _ e1
  exact⟨m1++m2,by rw[e2,Array.append_assoc]⟩
theorem Un.kept (k:∀b u,h.get? b=some u→h'.get? b=some u):Un fs ex H H h h' :=
 ⟨fun b ob q _ _ _=>k b ob q,fun b ob q _ _ _=>⟨ob.slots,k b ob q⟩,fun _ _ _ n _=>n,fun b ob q _=>⟨ob,k b ob q⟩,fun _ _ q=>q,fun _ _ _ q=>q,fun _ ps q=>⟨#[],by rw[q];simp⟩⟩
theorem Un.refl:Un fs ex H H h h:=Un.kept fun _ _ q=>q
theorem Un.laid (k:∀b u,h.get? b=some u→h'.get? b=some u)(hp:h.objs.size≤a)(hn:H a=none):Un fs ex H (upd H a o) h h' where
 keep:=fun b u q _ _ _=>k b u q
 slot:=fun b u q _ _ _=>⟨u.slots,k b u q⟩
 free:=fun b u q n _=>by rw[zJ (Nat.ne_of_lt (Nat.lt_of_lt_of_le (Heap.lt_size q) hp))];exact n
 there:=fun b u q _=>⟨u,k b u q⟩
 tups:=fun b xs q=>by rw[zJ (wL q hn)];exact q
 frzs:=fun b u xs q=>by rw[zJ (wL q hn)];exact q
 tbls:=fun b ps q=>⟨#[],by rw[zJ (wL q hn),q];simp⟩
theorem Un.write (mu:Mut (H x))(he:e=x∨H e=some (.own x))(k:∀b u,b≠e→h.get? b=some u→h'.get? b=some u)(heo:∃u,h'.get? e=some u):Un fs ex H (upd H x o) h h':=by
 have hx:∀b,H b=none→b≠x:=fun b n z=>by subst z;rw[n] at mu;exact mu
 have hb:∀b,H b=none→b≠e:=fun b n z=>by
  subst z
  rcases he with r|r
  ·exact hx b n r
  ·rw[n] at r;cases r
 have hm:∀b u,H b=some u→¬Mut (some u)→b≠x:=fun b u q nm z=>by subst z;rw[q] at mu;exact nm mu
 refine ⟨fun b u q n _ _=>k b u (hb b n) q,fun b u q n _ _=>⟨u.slots,k b u (hb b n) q⟩,fun b u q n _=>by rw[zJ (hx b n)];exact n,fun b u q _=>?_,
  fun b xs q=>by rw[zJ (hm b _ q fun z=>z)];exact q,fun b u xs q=>by rw[zJ (hm b _ q fun z=>z)];exact q,fun b ps q=>⟨#[],by rw[zJ (hm b _ q fun z=>z),q];simp⟩⟩
 by_cases hbe:b=e
 ·subst hbe;exact heo
 ·exact⟨u,k b u hbe q⟩
theorem Un.mono (u:Un fs ex H H1 h h1)(hs:∀b∈fs,b∈fs')(hx:∀b∈ex,b∈ex'):Un fs' ex' H H1 h h1 :=
 ⟨fun b ob q n hb he=>u.keep b ob q n (fun z=>hb (hs b z)) fun z=>he (hx b z),fun _ _ q n _ he=>u.any q n fun z=>he (hx _ z),fun b ob q n he=>u.free b ob q n fun z=>he (hx b z),fun b ob q he=>u.there b ob q fun z=>he (hx b z),u.tups,u.frzs,u.tbls⟩
end
def trk (h:Heap)(H:Hp):List Addr:=(List.range h.objs.size).filter fun a=>(H a).isSome
def hidT (h:Heap)(H:Hp):Heap:=PySem.W.hideAll h (trk h H)
theorem hidT_size (h:Heap)(H:Hp):(hidT h H).objs.size=h.objs.size:=PySem.W.hideAll_size _ _
theorem hidT_get {h:Heap}{H:Hp}{b:Addr}{o:Obj}(e:h.get? b=some o)(n:H b=none):(hidT h H).get? b=some o :=
 PySem.W.hideAll_get _ e fun hm=>by
  have q:(H b).isSome=true:=(List.mem_filter.mp hm).2
  rw[n] at q;simp at q
theorem of_hidT {h:Heap}{H:Hp}{b:Addr}{o:Obj}(e:(hidT h H).get? b=some o):h.get? b=some o∧H b=none:=by
 have e':h.get? b=some o:=PySem.W.of_hideAll (trk h H) e
 refine⟨e',?_⟩
 cases q:H b with
 | none=>rfl
 | some x =>
  have hm:b∈trk h H:=List.mem_filter.mpr ⟨List.mem_range.mpr (Heap.lt_size e'),by simp[q]⟩
  have z:(hidT h H).get? b=none:=PySem.W.hideAll_none (trk h H) hm
  rw[z] at e;cases e
def allNews (g h:Heap)(L:Addr):List (Addr×Obj):=(List.range h.objs.size).filterMap fun a=>if a=L∨(g.get? a).isSome=true then none else(h.get? a).map fun o=>(a,o)
def rest (g h:Heap)(L d:Addr):List (Addr×Obj):=(allNews g h L).filter fun p=>decide (p.1≠d)
end L2
namespace L2
open PySem PySem.Spec PyProof.Rows
structure Mod (K:PySem.W.Frag)(mg:Str→Option Value)(base:Heap):Prop where
 kin:K.In base
 glob:base.Ns mainGlobals mg
 blt:∃mb,base.Ns builtinsNs mb∧∀x:Str,x ≠ "__name__" → mb x=bootBuiltins x
 nolimit:base.NoLimit
structure Cx where
 prog:Program
 w:World
 K:PySem.W.Frag
 mg:Str→Option Value
 base:Heap
 A:Around
 N:List Str
 s₀:Shared
 H₀:Hp
 env:Env
 outer:List Env
 stack:List Env
 ex:List Addr
 fn:Str→Bool
 calm:Bool
 pn:List (Addr×Obj)
 xe:Value→Shared→Prop
def frs (l:List Env):List Addr:=l.filterMap (·.frame)
abbrev Cx.fs (X:Cx):List Addr:=frs X.outer
def Vis (sc:Scope)(x:Str):Prop:=sc.names.lookup x=some .local∨sc.names.lookup x=some .cell∨sc.names.lookup x=some .free
def Loc (sc:Scope)(x:Str):Prop:=sc.names.lookup x=some .local∨sc.names.lookup x=some .cell
def Look (env:Env)(h:Heap)(m:Str→Option Value)(x:Str)(u:Value):Prop :=
 (env.kindOf x=some .local∧m x=some u)∨((env.kindOf x=some .cell∨env.kindOf x=some .free)∧∃c,env.cells.lookup x=some c∧h.IsCell c (some u))
structure Cx.Ok (X:Cx):Prop where
 mod:Mod X.K X.mg X.base
 kind:X.env.scope.kind=.function
 glob:X.env.globals=mainGlobals
 blt:X.env.builtins=builtinsNs
 above:X.s₀.heap.objs.size≤X.env.locals
 inj:∀x y c,X.env.cells.lookup x=some c→X.env.cells.lookup y=some c→x=y
 has:∀x,(X.env.kindOf x=some .cell∨X.env.kindOf x=some .free)→∃c,X.env.cells.lookup x=some c
 cab:∀x c,X.fn x=true→X.env.cells.lookup x=some c→X.s₀.heap.objs.size≤c
 hd:X.calm=true→X.A.handled=none
 frames:X.A.frames=some X.stack
 stk:X.stack=X.outer∨(X.stack=X.env::X.outer∧X.env.frame=some X.env.locals)
 exf:∀b∈X.ex,b≠X.env.locals∧∀x c,X.env.cells.lookup x=some c→c≠b
 bs:∀b o,X.base.get? b=some o→X.s₀.heap.get? b=some o∧X.H₀ b=none
 bsz:X.base.objs.size≤X.s₀.heap.objs.size
 noex:∀b o,X.base.get? b=some o→b∉X.ex
 exfs:∀b∈X.ex,b∉X.fs
 funs:X.s₀.heap.FunFrames X.base X.outer
 frf:∀b∈X.fs,X.H₀ b=none
structure Inv (X:Cx)(pins:List (Addr×Obj))(σ:List (Option V))(H:Hp)(s:Shared):Prop where
 ok:X.Ok
 os:s.os=X.s₀.os
 bare:AllBare s.gens
 base:Un X.fs X.ex X.H₀ H X.s₀.heap s.heap
 loc:∃m,s.heap.Ns X.env.locals m∧∀(i:Nat) (x:Str) (v:V),X.N[i]? = some x→σ[i]? = some (some v)→Vis X.env.scope x→∃u,RelV v u∧Look X.env s.heap m x u
 cell:∀x c,X.env.cells.lookup x=some c→∃v,s.heap.IsCell c v
 free:H X.env.locals=none
 freeC:∀x c,X.env.cells.lookup x=some c→H c=none
 pin:∀p∈X.pn++pins,s.heap.get? p.1=some p.2∧H p.1=none∧p.1≠X.env.locals∧p.1∉X.fs∧∀v,p.2.data≠.cell v
 hok:HOk X.prog X.w H s.heap
 len:σ.length=X.N.length
section
variable {X:Cx}{pins:List (Addr×Obj)}{σ:List (Option V)}{H H':Hp}{s:Shared}{h':Heap}
theorem Cx.Ok.nofr (ok:X.Ok){b:Addr}{o:Obj}(e:X.base.get? b=some o):b∉X.fs:=fun hb=>by
 have:=(ok.funs.mem hb).1
 rw[e] at this;cases this
theorem Inv.bs (I:Inv X pins σ H s):∀b o,X.base.get? b=some o→s.heap.get? b=some o∧H b=none:=fun b o e =>
 ⟨I.base.keep b o (I.ok.bs b o e).1 (I.ok.bs b o e).2 (I.ok.nofr e) (I.ok.noex b o e),I.base.free b o (I.ok.bs b o e).1 (I.ok.bs b o e).2 (I.ok.noex b o e)⟩
theorem Inv.bk (I:Inv X pins σ H s):∀b o,X.base.get? b=some o→s.heap.get? b=some o:=fun b o e=>(I.bs b o e).1
theorem Inv.mod (I:Inv X pins σ H s):Mod X.K X.mg X.base:=I.ok.mod
theorem Inv.kIn (I:Inv X pins σ H s):X.K.In s.heap:=I.ok.mod.kin.keeps I.bk
theorem Inv.fr (I:Inv X pins σ H s):∃m,Fr X.base X.env.locals s.heap m :=
 let ⟨m,hn,_⟩:=I.loc
 ⟨m,hn,I.bk,Nat.le_trans I.ok.bsz I.ok.above⟩
theorem Inv.lt (I:Inv X pins σ H s):X.env.locals<s.heap.objs.size:=let ⟨_,hn,_⟩:=I.loc;hn.lt
theorem Inv.sz (I:Inv X pins σ H s):X.s₀.heap.objs.size≤s.heap.objs.size:=Nat.le_trans I.ok.above (Nat.le_of_lt I.lt)
theorem Inv.nofs (I:Inv X pins σ H s){a:Addr}(h:s.heap.objs.size≤a):a∉X.fs:=fun hb=>by
 obtain⟨_,o,ho,_⟩:=I.ok.funs.mem hb
 exact absurd (Nat.lt_of_lt_of_le (Heap.lt_size ho) (Nat.le_trans I.sz h)) (Nat.lt_irrefl _)
theorem Inv.cne (I:Inv X pins σ H s):∀x c,X.env.cells.lookup x=some c→c≠X.env.locals:=fun x c e z=>by
 obtain⟨v,o,ho,hd⟩:=I.cell x c e
 obtain⟨m,⟨o',es,ep,ho',hd',_⟩,_⟩:=I.loc
 rw[z,ho'] at ho;cases ho;rw[hd'] at hd;cases hd
theorem Inv.funs (I:Inv X pins σ H s):s.heap.FunFrames X.base X.outer:=by
 have all:∀(l:List Env),(∀b∈frs l,b∈X.fs)→X.s₀.heap.FunFrames X.base l→s.heap.FunFrames X.base l:=by
  intro l
  induction l with
  | nil=>intro _ _;trivial
  | cons env r ih =>
   intro hs hl
   obtain⟨hk,⟨L,o,hf,hn,ho,hd⟩,hr⟩:=hl
   have hL:L∈X.fs:=hs L (by unfold frs;rw[List.filterMap_cons,hf];exact List.mem_cons_self)
   obtain⟨sl,e⟩:=I.base.slot L o ho (I.ok.frf L hL) hL fun z=>I.ok.exfs L z hL
   exact⟨hk,⟨L,_,hf,hn,e,hd⟩,ih (fun b hb=>hs b (by unfold frs;rw[List.filterMap_cons,hf];exact List.mem_cons_of_mem _ hb)) hr⟩
 exact all X.outer (fun _ hb=>hb) I.ok.funs
theorem Inv.stack (I:Inv X pins σ H s):s.heap.FunFrames X.base X.stack:=by
 rcases I.ok.stk with e|⟨e,hf⟩
 ·rw[e];exact I.funs
 ·rw[e]
  obtain⟨m,hn,_⟩:=I.loc
  refine .cons (by rw[I.ok.kind];decide) hf hn ?_ I.funs
  exact Heap.get?_none_of_le (Nat.le_trans I.ok.bsz I.ok.above)
theorem Inv.stkSub (I:Inv X pins σ H s):∀b∈frs X.stack,b∈X.env.locals::X.fs:=fun b hb=>by
 rcases I.ok.stk with e|⟨e,hf⟩
 ·rw[e] at hb;exact List.mem_cons_of_mem _ hb
 ·rw[e] at hb
  unfold frs at hb
  rw[List.filterMap_cons,hf] at hb
  exact hb
theorem Inv.stkFree (I:Inv X pins σ H s):∀b∈frs X.stack,H b=none:=fun b hb=>by
 rcases List.mem_cons.mp (I.stkSub b hb) with e|hb
 ·rw[e];exact I.free
 ·obtain⟨_,o,ho,_⟩:=I.ok.funs.mem hb
  exact I.base.free b o ho (I.ok.frf b hb) fun z=>I.ok.exfs b z hb
theorem Inv.step {g':Array GenState}{t':Nat}{d':Drawn}{ch:List Addr}(I:Inv X pins σ H s)
  (hch:∀b∈ch,(b∈X.ex∨X.s₀.heap.objs.size≤b)∧b≠X.env.locals∧(∀x c,X.env.cells.lookup x=some c→c≠b)∧∀p∈X.pn++pins,p.1≠b)
  (keep:∀b o,b≠X.env.locals→b∉X.fs→b∉ch→s.heap.get? b=some o→H b=none→h'.get? b=some o)
  (slot:∀b o,b≠X.env.locals→b∈X.fs→b∉ch→s.heap.get? b=some o→H b=none→∃sl,h'.get? b=some {o with slots:=sl}) (free:∀b o,b∉ch→s.heap.get? b=some o→H b=none→H' b=none)
  (there:∀b o,b∉ch→s.heap.get? b=some o→∃o',h'.get? b=some o')
  (tups:∀b xs,H b=some (.tup xs)→H' b=some (.tup xs)) (frzs:∀b o u,H b=some (.frz o u)→H' b=some (.frz o u)) (tbls:∀b ps,H b=some (.tbl ps)→∃more,H' b=some (.tbl (ps++more)))
  (ns:∀m,s.heap.Ns X.env.locals m→h'.Ns X.env.locals m) (hok:HOk X.prog X.w H' h') (hg:AllBare g') :
  Inv X pins σ H' {s with heap:=h',gens:=g',drawn:=d',toks:=t'}:=by
 have neL:∀b o,X.s₀.heap.get? b=some o→b≠X.env.locals:=fun b o e=>Nat.ne_of_lt (Nat.lt_of_lt_of_le (Heap.lt_size e) I.ok.above)
 have neC:∀b o,X.s₀.heap.get? b=some o→b∉X.ex→b∉ch:=fun b o e hx hb=>by
  rcases(hch b hb).1 with z|z
  ·exact hx z
  ·exact absurd (Nat.lt_of_lt_of_le (Heap.lt_size e) z) (Nat.lt_irrefl _)
 have cellK:∀x c,X.env.cells.lookup x=some c→∀v,s.heap.IsCell c v→h'.IsCell c v:=fun x c e v ⟨o,ho,hd⟩=>by
  have nch:c∉ch:=fun z=>(hch c z).2.2.1 x c e rfl
  by_cases hc:c∈X.fs
  ·obtain⟨sl,q⟩:=slot c o (I.cne x c e) hc nch ho (I.freeC x c e)
   exact⟨_,q,hd⟩
  ·exact⟨o,keep c o (I.cne x c e) hc nch ho (I.freeC x c e),hd⟩
 refine⟨I.ok,I.os,hg,⟨fun b o e n hb hx=>?_,fun b o e n hb hx=>?_,fun b o e n hx=>?_,fun b o e hx=>?_,fun b xs e=>tups b xs (I.base.tups b xs e),fun b o xs e=>frzs b o xs (I.base.frzs b o xs e),fun b ps e=>?_⟩,?_,fun x c e=>?_,?_,fun x c e=>?_,fun p hp=>?_,hok,I.len⟩
 ·exact keep b o (neL b o e) hb (neC b o e hx) (I.base.keep b o e n hb hx) (I.base.free b o e n hx)
 ·obtain⟨sl,e1⟩:=I.base.slot b o e n hb hx
  obtain⟨sl',e2⟩:=slot b _ (neL b o e) hb (neC b o e hx) e1 (I.base.free b o e n hx)
  exact⟨sl',e2⟩
 ·obtain⟨o',e1⟩:=I.base.there b o e hx
  exact free b o' (neC b o e hx) e1 (I.base.free b o e n hx)
 ·obtain⟨o',e1⟩:=I.base.there b o e hx
  exact there b o' (neC b o e hx) e1
 ·obtain⟨m1,e1⟩:=I.base.tbls b ps e
  obtain⟨m2,e2⟩:=tbls b _ e1
  exact⟨m1++m2,by rw[e2,Array.append_assoc]⟩
 ·obtain⟨m,hn,hl⟩:=I.loc
  refine⟨m,ns m hn,fun i x v e1 e2 e3=>?_⟩
  obtain⟨u,r,l⟩:=hl i x v e1 e2 e3
  refine⟨u,r,?_⟩
  rcases l with l|⟨k,c,e,z⟩
  ·exact .inl l
  ·exact .inr ⟨k,c,e,cellK x c e _ z⟩
 ·obtain⟨v,z⟩:=I.cell x c e
  exact⟨v,cellK x c e v z⟩
 ·obtain⟨m,⟨o,_,_,ho,_⟩,_⟩:=I.loc
  exact free _ o (fun z=>(hch _ z).2.1 rfl) ho I.free
 ·obtain⟨v,o,ho,hd⟩:=I.cell x c e
  exact free c o (fun z=>(hch c z).2.2.1 x c e rfl) ho (I.freeC x c e)
 ·obtain⟨e,n,ne,nf,d⟩:=I.pin p hp
  have nch:p.1∉ch:=fun z=>(hch p.1 z).2.2.2 p hp rfl
  exact⟨keep p.1 p.2 ne nf nch e n,free p.1 p.2 nch e n,ne,nf,d⟩
theorem Inv.un {t':Nat}(I:Inv X pins σ H s)(u:Un X.fs [] H H' s.heap h')(hok:HOk X.prog X.w H' h'):Inv X pins σ H' {s with heap:=h',toks:=t'}:=by
 obtain⟨m,⟨o,es,ep,ho,r⟩,_⟩:=id I.loc
 obtain⟨sl,hL⟩:=u.any ho I.free (by simp)
 exact I.step (g':=s.gens) (d':=s.drawn) (ch:=[]) (fun _ z=>nomatch z) (fun b o _ hb _ e n=>u.keep b o e n hb (by simp)) (fun b o _ hb _ e n=>u.slot b o e n hb (by simp)) (fun b o _ e n=>u.free b o e n (by simp)) (fun b o _ e=>u.there b o e (by simp)) u.tups u.frzs u.tbls (fun m' hm=>by
  obtain⟨o',es',ep',ho',r'⟩:=hm
  rw[ho] at ho';cases ho'
  exact⟨_,es',ep',hL,r'⟩) hok I.bare
theorem Inv.call {g':Array GenState}{t':Nat}{d':Drawn}{ch:List Addr}(I:Inv X pins σ H s)(u:Un (frs X.stack) ch H H' s.heap h')(hok:HOk X.prog X.w H' h')(hg:AllBare g')
  (hch:∀b∈ch,(b∈X.ex∨X.s₀.heap.objs.size≤b)∧b≠X.env.locals∧(∀x c,X.env.cells.lookup x=some c→c≠b)∧∀p∈X.pn++pins,p.1≠b) :
  Inv X pins σ H' {s with heap:=h',gens:=g',drawn:=d',toks:=t'}:=by
 obtain⟨m,⟨o,es,ep,ho,r⟩,_⟩:=id I.loc
 obtain⟨sl,hL⟩:=u.any ho I.free fun z=>(hch _ z).2.1 rfl
 exact I.step (ch:=ch) hch (fun b o hL hb hc e n=>u.keep b o e n (fun z=>(List.mem_cons.mp (I.stkSub b z)).elim hL hb) hc) (fun b o _ _ hc e n=>u.any e n hc) (fun b o hc e n=>u.free b o e n hc) (fun b o hc e=>u.there b o e hc) u.tups u.frzs u.tbls (fun m' hm=>by
  obtain⟨o',es',ep',ho',r'⟩:=hm
  rw[ho] at ho';cases ho'
  exact⟨_,es',ep',hL,r'⟩) hok hg
theorem Inv.turned {t':Nat}{it:Addr}(I:Inv X pins σ H s)(k:∀b o,b≠it→s.heap.get? b=some o→h'.get? b=some o)(hn:H it=none)(hL:it≠X.env.locals)
  (h1:it∈X.ex∨X.s₀.heap.objs.size≤it) (h2:∀x c,X.env.cells.lookup x=some c→c≠it) (h3:∀p∈X.pn++pins,p.1≠it):Inv X pins σ H {s with heap:=h',toks:=t'}:=by
 have nit:∀b u,H b=some u→b≠it:=fun b u e z=>by rw[z,hn] at e;cases e
 refine I.step (g':=s.gens) (d':=s.drawn) (ch:=[it]) (fun b hb=>?_) (fun b o _ _ hc e _=>k b o (fun z=>hc (by simp[z])) e) (fun b o _ _ hc e _=>⟨o.slots,k b o (fun z=>hc (by simp[z])) e⟩) (fun _ _ _ _ n=>n)
  (fun b o hc e=>⟨o,k b o (fun z=>hc (by simp[z])) e⟩) (fun _ _ e=>e) (fun _ _ _ e=>e) (fun b ps e=>⟨#[],by rw[e];simp⟩) (fun m hm=>?_) (fun b u e=>?_) I.bare
 ·have e:b=it:=by simpa using hb
  subst e
  exact⟨h1,hL,h2,h3⟩
 ·obtain⟨o,es,ep,ho,r⟩:=hm
  exact⟨o,es,ep,k _ o (Ne.symm hL) ho,r⟩
 ·refine(I.hok b u e).stay (fun c v hc q=>k c v ?_ q) (fun _ q=>q) fun _ _ q=>q
  rcases hc with z|z
  ·rw[z];exact nit b u e
  ·exact nit c _ z
theorem Inv.tok (I:Inv X pins σ H s)(t:Nat):Inv X pins σ H {s with toks:=t}:=I.un (h':=s.heap) (t':=t) Un.refl I.hok
theorem Inv.kept {t':Nat}(I:Inv X pins σ H s)(k:∀b u,s.heap.get? b=some u→h'.get? b=some u):Inv X pins σ H {s with heap:=h',toks:=t'}:=I.un (Un.kept k) (I.hok.kept k)
theorem Inv.laid {a:Addr}{o:HO}{t':Nat}(I:Inv X pins σ H s)(k:∀b u,s.heap.get? b=some u→h'.get? b=some u)(hp:s.heap.objs.size≤a)(new:ObjOk X.prog X.w (upd H a o) h' a o) :
  Inv X pins σ (upd H a o) {s with heap:=h',toks:=t'}:=I.un (Un.laid k hp (I.hok.fresh hp)) (I.hok.laid k hp new)
theorem Inv.write {x e:Addr}{o:HO}{t':Nat}(I:Inv X pins σ H s)(mu:Mut (H x))(he:e=x∨H e=some (.own x))(k:∀b u,b≠e→s.heap.get? b=some u→h'.get? b=some u)(heo:∃u,h'.get? e=some u)
  (new:ObjOk X.prog X.w (upd H x o) h' x o):Inv X pins σ (upd H x o) {s with heap:=h',toks:=t'}:=I.un (Un.write mu he k heo) (I.hok.write mu he k heo new)
theorem Inv.weak {σ':List (Option V)}(I:Inv X pins σ H s)(hl:σ'.length=σ.length)(w:∀(i:Nat) v,σ'[i]? = some (some v)→σ[i]? = some (some v)):Inv X pins σ' H s :=
 ⟨I.ok,I.os,I.bare,I.base,let ⟨m,hn,hl'⟩:=I.loc;⟨m,hn,fun i x v e1 e2 e3=>hl' i x v e1 (w i v e2) e3⟩,I.cell,I.free,I.freeC,I.pin,I.hok,hl.trans I.len⟩
theorem Inv.pins_of {pins':List (Addr×Obj)}(I:Inv X pins σ H s)(h:∀p∈pins',s.heap.get? p.1=some p.2∧H p.1=none∧p.1≠X.env.locals∧p.1∉X.fs∧∀v,p.2.data≠.cell v):Inv X pins' σ H s :=
 ⟨I.ok,I.os,I.bare,I.base,I.loc,I.cell,I.free,I.freeC,fun p hp=>(List.mem_append.mp hp).elim (fun z=>I.pin p (List.mem_append_left _ z)) (h p),I.hok,I.len⟩
theorem nodup_ix {N:List Str}(hN:N.Nodup){i j:Nat}{x:Str}(a:N[i]? = some x)(b:N[j]? = some x):i=j:=by
 obtain⟨h1,e1⟩:=List.getElem?_eq_some_iff.mp a
 obtain⟨h2,e2⟩:=List.getElem?_eq_some_iff.mp b
 exact(List.getElem_inj hN).mp (e1.trans e2.symm)
theorem store_ok2 {M:Model}{A:Around}{E:Value→Shared→Prop}{i:Nat}{x:Str}{v:V}{u:Value}{Q:Unit→Shared→Prop}(I:Inv X pins σ H s)(hN:X.N.Nodup)(hi:X.N[i]? = some x)(hx:Loc X.env.scope x)(r:RelV v u)
  (h:∀s',Inv X pins (σ.set i (some v)) H s'→(∃a,Heap.SameBut a s.heap s'.heap∧(a=X.env.locals∨X.env.cells.lookup x=some a))→Q () s') (hf:X.fn x=true∨X.env.scope.names.lookup x=some .local:=by first|exact .inl rfl|exact .inr rfl|assumption):wpAny M A (storeName X.env x u) Q E s:=by
 obtain⟨m,hn,hl⟩:=id I.loc
 have hcls:(X.env.scope.kind == .class || (X.env.scope.kind == .module&&X.env.locals != X.env.globals))=false:=by rw[I.ok.kind];rfl
 have hiσ:i<σ.length:=by rw[I.len];exact(List.getElem?_eq_some_iff.mp hi).1
 have cne:=I.cne
 have tracked:∀{a:Addr}{h':Heap},(∃o,s.heap.get? a=some o∧H a=none)→Heap.SameBut a s.heap h'→HOk X.prog X.w H h':=fun {a h'} ha hs b ob e=>by
  obtain⟨_,_,hfree⟩:=ha
  refine(I.hok b ob e).stay (fun c w' hc q=>(hs.2 c ?_).trans q) (fun _ q=>q) fun _ _ q=>q
  rintro rfl
  rcases hc with rfl|hc
  ·rw[hfree] at e;cases e
  ·rw[hfree] at hc;cases hc
 rcases hx with hk|hk
 ·refine wpAny_storeName_local hk hn (fun h' hn' hs=>?_) hcls
  obtain⟨oL,_,_,hoL,_⟩:=id hn
  refine h _ ⟨I.ok,I.os,I.bare,⟨fun b o e n hb hx=>?_,fun b o e n hb hx=>?_,I.base.free,fun b o e hx=>?_,I.base.tups,I.base.frzs,I.base.tbls⟩,⟨_,hn',fun j y v' e1 e2 e3=>?_⟩,fun y c e=>?_,I.free,I.freeC,fun p hp=>?_,tracked ⟨oL,hoL,I.free⟩ hs,by simpa using I.len⟩ ⟨_,hs,.inl rfl⟩
  ·exact(hs.2 b (Nat.ne_of_lt (Nat.lt_of_lt_of_le (Heap.lt_size e) I.ok.above))).trans (I.base.keep b o e n hb hx)
  ·obtain⟨sl,e1⟩:=I.base.slot b o e n hb hx
   exact⟨sl,(hs.2 b (Nat.ne_of_lt (Nat.lt_of_lt_of_le (Heap.lt_size e) I.ok.above))).trans e1⟩
  ·obtain⟨o',e1⟩:=I.base.there b o e hx
   exact⟨o',(hs.2 b (Nat.ne_of_lt (Nat.lt_of_lt_of_le (Heap.lt_size e) I.ok.above))).trans e1⟩
  ·by_cases hj:j=i
   ·subst hj
    rw[hi] at e1;cases e1
    rw[List.getElem?_set_self hiσ] at e2
    cases e2
    exact⟨u,r,.inl ⟨hk,by simp⟩⟩
   ·rw [List.getElem?_set_ne (Ne.symm hj)] at e2
    obtain⟨u',r',q⟩:=hl j y v' e1 e2 e3
    refine⟨u',r',?_⟩
    rcases q with⟨k,e⟩|⟨k,c,e,z⟩
    ·refine .inl ⟨k,?_⟩
     have:y≠x:=fun e=>hj (nodup_ix hN e1 (e▸hi))
     simp[this,e]
    ·exact .inr ⟨k,c,e,z.sameBut hs (cne y c e)⟩
  ·obtain⟨w',z⟩:=I.cell y c e
   exact⟨w',z.sameBut hs (cne y c e)⟩
  ·obtain⟨e,n,ne,nf,d⟩:=I.pin p hp
   exact⟨(hs.2 p.1 ne).trans e,n,ne,nf,d⟩
 ·have hfn:X.fn x=true:=by
   rcases hf with z|z
   ·exact z
   ·rw[z] at hk;cases hk
  obtain⟨c,hc⟩:=I.ok.has x (.inl hk)
  obtain⟨w',z⟩:=I.cell x c hc
  refine wpAny_storeName_cell I.ok.kind hk hc z (fun h' hc' hs=>?_)
  obtain⟨oc,hoc,hocd⟩:=id z
  refine h {s with heap:=h'} ⟨I.ok,I.os,I.bare,⟨fun b o e n hb hx=>?_,fun b o e n hb hx=>?_,I.base.free,fun b o e hx=>?_,I.base.tups,I.base.frzs,I.base.tbls⟩,⟨m,hn.sameBut hs (Ne.symm (cne x c hc)),fun j y v' e1 e2 e3=>?_⟩,fun y c' e=>?_,I.free,I.freeC,fun p hp=>?_,tracked ⟨oc,hoc,I.freeC x c hc⟩ hs,by simpa using I.len⟩ ⟨c,hs,.inr hc⟩
  ·exact(hs.2 b (Nat.ne_of_lt (Nat.lt_of_lt_of_le (Heap.lt_size e) (I.ok.cab x c hfn hc)))).trans (I.base.keep b o e n hb hx)
  ·obtain⟨sl,e1⟩:=I.base.slot b o e n hb hx
   exact⟨sl,(hs.2 b (Nat.ne_of_lt (Nat.lt_of_lt_of_le (Heap.lt_size e) (I.ok.cab x c hfn hc)))).trans e1⟩
  ·obtain⟨o',e1⟩:=I.base.there b o e hx
   exact⟨o',(hs.2 b (Nat.ne_of_lt (Nat.lt_of_lt_of_le (Heap.lt_size e) (I.ok.cab x c hfn hc)))).trans e1⟩
  ·by_cases hj:j=i
   ·subst hj
    rw[hi] at e1;cases e1
    rw[List.getElem?_set_self hiσ] at e2
    cases e2
    exact⟨u,r,.inr ⟨.inl hk,c,hc,hc'⟩⟩
   ·rw [List.getElem?_set_ne (Ne.symm hj)] at e2
    obtain⟨u',r',q⟩:=hl j y v' e1 e2 e3
    refine⟨u',r',?_⟩
    rcases q with q|⟨k,c',e,z'⟩
    ·exact .inl q
    ·refine .inr ⟨k,c',e,z'.sameBut hs ?_⟩
     rintro rfl
     exact hj (nodup_ix hN e1 (I.ok.inj _ _ _ e hc▸hi))
  ·by_cases hcc:c'=c
   ·subst hcc;exact⟨_,hc'⟩
   ·obtain⟨w2,z2⟩:=I.cell y c' e
    exact⟨w2,z2.sameBut hs hcc⟩
  ·obtain⟨e,n,ne,nf,d⟩:=I.pin p hp
   refine⟨(hs.2 p.1 ?_).trans e,n,ne,nf,d⟩
   intro q
   rw[q,hoc] at e
   have q':oc=p.2:=Option.some.inj e
   exact d w' (by rw[← q'];exact hocd)
theorem zcn {M:Model}{A:Around}{E:Value→Shared→Prop}{i:Nat}{x:Str}{v:V}{u:Value}{Q:Unit→Shared→Prop}(I:Inv X pins σ H s)(hN:X.N.Nodup)(hi:X.N[i]? = some x)(hx:Loc X.env.scope x)(r:RelV v u)
  (h:∀s',Inv X pins (σ.set i (some v)) H s'→Q () s') (hf:X.fn x=true∨X.env.scope.names.lookup x=some .local:=by first|exact .inl rfl|exact .inr rfl|assumption):wpAny M A (storeName X.env x u) Q E s :=
 store_ok2 I hN hi hx r (fun s' I' _=>h s' I') hf
theorem Inv.call' {s':Shared}{ch:List Addr}(I:Inv X pins σ H s)(ho:s'.os=s.os)(u:Un (frs X.stack) ch H H' s.heap s'.heap)(hok:HOk X.prog X.w H' s'.heap)(hg:AllBare s'.gens)
  (hch:∀b∈ch,(b∈X.ex∨X.s₀.heap.objs.size≤b)∧b≠X.env.locals∧(∀x c,X.env.cells.lookup x=some c→c≠b)∧∀p∈X.pn++pins,p.1≠b):Inv X pins σ H' s':=by
 obtain⟨h',g',d',t',o'⟩:=s'
 have e:o'=s.os:=ho
 subst e
 exact I.call (g':=g') (t':=t') (d':=d') u hok hg hch
end
abbrev XK:=Value→Option Addr→Hp→Prop
abbrev St:=List (Option V)
abbrev VK:=V→Hp→Prop
abbrev TE:=St→Hp→VK→Prop
abbrev TT:=St→Hp→(Bool→Hp→Prop)→Prop
abbrev TA:=St→Hp→(List V→Hp→Prop)→Prop
structure Ends where
 nx:St→Hp→Prop
 rt:VK
 bk:St→Hp→Prop:=fun _ _=>False
 ct:St→Hp→Prop:=fun _ _=>False
abbrev TS:=Ends→St→Hp→Prop
inductive EP (X:Cx)(pins:List (Addr×Obj))(σ:St)(Q:VK)(u:Value)(s':Shared):Prop
 | mk (v:V) (H':Hp) (I:Inv X pins σ H' s') (r:RelV v u) (q:Q v H')
inductive TP (X:Cx)(pins:List (Addr×Obj))(σ:St)(Q:Bool→Hp→Prop)(b:Bool)(s':Shared):Prop
 | mk (H':Hp) (I:Inv X pins σ H' s') (q:Q b H')
inductive AP (X:Cx)(pins:List (Addr×Obj))(σ:St)(Q:List V→Hp→Prop)(us:List Value)(s':Shared):Prop
 | mk (vs:List V) (H':Hp) (I:Inv X pins σ H' s') (r:Vals vs us) (q:Q vs H')
inductive SN (X:Cx)(pins:List (Addr×Obj))(Q:St→Hp→Prop)(s':Shared):Prop
 | mk (a:St) (b:Hp) (I:Inv X pins a b s') (q:Q a b)
inductive SR (X:Cx)(pins:List (Addr×Obj))(Q:VK)(u:Value)(s':Shared):Prop
 | mk (v:V) (a:St) (b:Hp) (I:Inv X pins a b s') (r:RelV v u) (q:Q v b)
def SP (X:Cx)(pins:List (Addr×Obj))(D:Ends)(f:Flow)(s':Shared):Prop :=
 match f with
 | .next=>SN X pins D.nx s'
 | .brk=>SN X pins D.bk s'
 | .cont=>SN X pins D.ct s'
 | .ret u=>SR X pins D.rt u s'
def PE (X:Cx)(e:Expr)(t:TE):Prop :=
 ∀(pins:List (Addr×Obj)) (s:Shared) (σ:St) (H:Hp) (Q:VK),Inv X pins σ H s→t σ H Q→wpAny (model X.prog X.w) X.A (eval e X.env) (EP X pins σ Q) X.xe s
def PT (X:Cx)(e:Expr)(t:TT):Prop :=
 ∀(pins:List (Addr×Obj)) (s:Shared) (σ:St) (H:Hp) (Q:Bool→Hp→Prop),Inv X pins σ H s→t σ H Q→wpAny (model X.prog X.w) X.A (isTrue e X.env (eval e X.env)) (TP X pins σ Q) X.xe s
def PW (X:Cx)(e:Expr)(t:TT):Prop :=
 ∀(whole:Sem Value) (pins:List (Addr×Obj)) (s:Shared) (σ:St) (H:Hp) (Q:Bool→Hp→Prop),Inv X pins σ H s→t σ H Q→wpAny (model X.prog X.w) X.A (isTrue e X.env whole) (TP X pins σ Q) X.xe s
theorem PW.pt {X:Cx}{e:Expr}{t:TT}(h:PW X e t):PT X e t:=h _
def PA (X:Cx)(es:List Expr)(t:TA):Prop :=
 ∀(pos:Pos) (pins:List (Addr×Obj)) (s:Shared) (σ:St) (H:Hp) (Q:List V→Hp→Prop),Inv X pins σ H s→t σ H Q→wpAny (model X.prog X.w) X.A (spliced (backTo pos (starEach es X.env))) (AP X pins σ Q) X.xe s
def PS (X:Cx)(st:Stmt)(t:TS):Prop :=
 ∀(pins:List (Addr×Obj)) (s:Shared) (σ:St) (H:Hp) (D:Ends),Inv X pins σ H s→t D σ H→wpAny (model X.prog X.w) X.A (exec st X.env) (SP X pins D) X.xe s
def PSs (X:Cx)(st:List Stmt)(t:TS):Prop :=
 ∀(pins:List (Addr×Obj)) (s:Shared) (σ:St) (H:Hp) (D:Ends),Inv X pins σ H s→t D σ H→wpAny (model X.prog X.w) X.A (execs st X.env) (SP X pins D) X.xe s
theorem thn {α:Type}{t:Sem α}{Q Q':α→Shared→Prop}{M:Model}{A:Around}{E:Value→Shared→Prop}{s:Shared}(h:wpAny M A t Q E s)(hQ:∀a s,Q a s→Q' a s):wpAny M A t Q' E s:=wpAny_mono h hQ fun _ _ x=>x
end L2
namespace L2
open PySem PySem.Spec PyProof.Rows
section
variable {X:Cx}
def zcE (i:Nat):TE:=fun σ H Q=>∃v,σ[i]? = some (some v)∧Q v H
def tC (v:V):TE:=fun _ H Q=>Q v H
theorem pe_var {i:Nat}{x:Str}{pos:Pos}(hN:X.N[i]? = some x)(hv:Vis X.env.scope x)(hd:(x == ("__debug__" : Str))=false:=by decide)(hcd:(x == ("__classdict__" : Str))=false:=by decide):PE X (.Name x pos) (zcE i):=by
 intro pins s σ H Q I h
 obtain⟨v,e,h⟩:=h
 obtain⟨m,hn,hl⟩:=I.loc
 obtain⟨u,r,l⟩:=hl i x v hN e hv
 have fin:EP X pins σ Q u s:=⟨v,H,I,r,h⟩
 rcases l with⟨hk,hm⟩|⟨hk,c,hc,hcell⟩
 ·exact wpAny_Name (wpAny_loadName_local I.ok.kind hk hn hm fin) hd
 ·rcases hk with hk|hk
  ·exact wpAny_Name (wpAny_loadName_cell I.ok.kind hk hc hcell fin) hd
  ·exact wpAny_Name (wpAny_loadName_free I.ok.kind hk hc hcell fin hcd) hd
theorem kW {i j pos}:PE X (.Constant (.int i) j pos) (tC (.int i)):=fun _ _ _ H _ I h=>wpAny_Constant_int ⟨.int i,H,I.tok _,⟨_,rfl⟩,h⟩
theorem pe_bl {b j pos}:PE X (.Constant (.bool b) j pos) (tC (.bl b)):=fun _ _ _ H _ I h=>Constant_bool ⟨.bl b,H,I,rfl,h⟩
theorem pe_non {j pos}:PE X (.Constant .none j pos) (tC .non):=fun _ _ _ H _ I h=>Constant_none ⟨.non,H,I,rfl,h⟩
theorem pe_str {x j pos}:PE X (.Constant (.str x) j pos) (tC (.str x)):=fun _ _ _ H _ I h=>Calls.Constant_str ⟨.str x,H,I.tok _,⟨_,rfl⟩,h⟩
def Gl (X:Cx)(x:Str):Prop:=X.env.kindOf x=some .globalImplicit
theorem zcI {E:Value→Shared→Prop}{pins:List (Addr×Obj)}{s:Shared}{σ:St}{H:Hp}{x:Str}{u:Value}{pos:Pos}{Q:Value→Shared→Prop}(I:Inv X pins σ H s)(hg:Gl X x)(hm:X.mg x=some u)(h:Q u s)
  (hd:(x == ("__debug__" : Str))=false:=by decide):wpAny (model X.prog X.w) X.A (eval (.Name x pos) X.env) Q E s :=
 Calls.Name_function_global I.ok.kind hg (Calls.loadGlobal_global (by rw[I.ok.glob];exact I.mod.glob.keeps I.bk) hm h) hd
theorem zas {E:Value→Shared→Prop}{pins:List (Addr×Obj)}{s:Shared}{σ:St}{H:Hp}{x:Str}{u:Value}{pos:Pos}{Q:Value→Shared→Prop}(I:Inv X pins σ H s)(hg:Gl X x)(hm:X.mg x=none)(hv:bootBuiltins x=some u)(h:Q u s)
  (hn:x ≠ "__name__" := by decide) (hd:(x == ("__debug__" : Str))=false:=by decide):wpAny (model X.prog X.w) X.A (eval (.Name x pos) X.env) Q E s:=by
 obtain⟨mb,h1,h2⟩:=I.mod.blt
 exact Calls.Name_function_global I.ok.kind hg (Calls.loadGlobal_builtin (by rw[I.ok.glob];exact I.mod.glob.keeps I.bk) hm (by rw[I.ok.blt];exact h1.keeps I.bk) ((h2 x hn).trans hv) h) hd
theorem zbp {x:Str}{v:V}{u:Value}{pos:Pos}(hg:Gl X x)(hm:X.mg x=some u)(r:RelV v u)(hd:(x == ("__debug__" : Str))=false:=by decide):PE X (.Name x pos) (tC v) :=
 fun _ _ _ H _ I h=>zcI I hg hm ⟨v,H,I,r,h⟩ hd
theorem zbi {x:Str}{v:V}{u:Value}{pos:Pos}(hg:Gl X x)(hm:X.mg x=none)(hv:bootBuiltins x=some u)(r:RelV v u)(hn:x ≠ "__name__" := by decide)(hd:(x == ("__debug__" : Str))=false:=by decide):PE X (.Name x pos) (tC v) :=
 fun _ _ _ H _ I h=>zas I hg hm hv ⟨v,H,I,r,h⟩ hn hd
variable {a b:Expr}{ta tb:TE}{pos:Pos}
def PC (X:Cx)(op:CmpOp)(a b:Expr)(t:TE):Prop :=
 ∀ (pins:List (Addr×Obj)) (s:Shared) (σ:St) (H:Hp) (Q:VK),Inv X pins σ H s→t σ H Q →
  wpAny (model X.prog X.w) X.A (eval a X.env) (fun v s₁=>wpAny (model X.prog X.w) X.A (eval b X.env) (fun u s₂=>wpAny (model X.prog X.w) X.A (compareOp op v u) (EP X pins σ Q) X.xe s₂) X.xe s₁) X.xe s
theorem nobehind (b:Expr){op:CmpOp}(h:op≠.In)(h2:op≠.NotIn):behindInMarks op b=false:=by
 have e1:(op == CmpOp.In)=false:=by cases op <;>first|rfl|exact absurd rfl h
 have e2:(op == CmpOp.NotIn)=false:=by cases op <;>first|rfl|exact absurd rfl h2
 cases b <;>simp[behindInMarks,e1,e2]
def tIsN (ta:TE):TE:=fun σ H Q=>ta σ H fun x H1=>Q (.bl (decide (x=.non))) H1
def tNotN (ta:TE):TE:=fun σ H Q=>ta σ H fun x H1=>Q (.bl (!decide (x=.non))) H1
theorem RelV.none_iff {x:V}{v:Value}(r:RelV x v):(v == Value.none)=decide (x=.non):=by
 cases x with
 | non=>cases r;rfl
 | bl _=>cases r;rfl
 | int _=>obtain⟨t,rfl⟩:=r;rfl
 | str _=>obtain⟨t,rfl⟩:=r;rfl
 | byt _=>obtain⟨t,rfl⟩:=r;rfl
 | flt _=>obtain⟨t,rfl⟩:=r;rfl
 | ref _=>cases r;rfl
 | ty _=>cases r;rfl
theorem pc_isN {j pos'}(ha:PE X a ta):PC X .Is a (.Constant .none j pos') (tIsN ta):=by
 intro pins s σ H Q I h
 refine thn (ha pins s σ H _ I h) fun v s1 hq0=>?_
 obtain⟨x,H1,I1,r1,q1⟩:=hq0
 exact Constant_none (is_none_gen ⟨.bl _,H1,I1,by rw[r1.none_iff];rfl,q1⟩)
theorem pc_notN {j pos'}(ha:PE X a ta):PC X .IsNot a (.Constant .none j pos') (tNotN ta):=by
 intro pins s σ H Q I h
 refine thn (ha pins s σ H _ I h) fun v s1 hq1=>?_
 obtain⟨x,H1,I1,r1,q1⟩:=hq1
 exact Constant_none (isnot_none_gen ⟨.bl _,H1,I1,by rw[r1.none_iff];rfl,q1⟩)
def tB (t:TE):TT:=fun σ H Q=>t σ H fun x H1=>∃c,x=.bl c∧Q c H1
theorem pe_cmp {op:CmpOp}{t:TE}(h:PC X op a b t)(h1:behindInMarks op b=false:=by first|exact nobehind _ (by decide) (by decide)|rfl):PE X (.Compare a [op] [b] pos) t:=fun pins s σ H Q I hw=>wpAny_Compare1 (h pins s σ H Q I hw) h1
theorem pt_cmp {op:CmpOp}{t:TE}(h:PC X op a b t)(h1:behindInMarks op b=false:=by first|exact nobehind _ (by decide) (by decide)|rfl):PT X (.Compare a [op] [b] pos) (tB t):=by
 intro pins s σ H Q I hw
 refine wpAny_isTrue_Compare1 (thn (h pins s σ H _ I hw) fun v s1 h1=>thn h1 fun u s2 h2=>thn h2 fun c s3 ⟨x,H1,I1,r1,q1⟩=>?_) h1
 obtain⟨d,rfl,q⟩:=q1
 cases r1
 exact wpAny_truthy_bool ⟨H1,I1,q⟩
theorem pt_val {e:Expr}{t:TE}(h:PE X e t)(he:∀whole,isTrue e X.env whole=(do let v ← whole;standAt e.pos;holding [v] (truthy v)):=by intro _;rfl):PT X e (tB t):=by
 intro pins s σ H Q I hw
 refine isTrue_plain (thn (h pins s σ H _ I hw) fun v s1 hq2=>?_) (he _)
 obtain⟨x,H1,I1,r1,q1⟩:=hq2
 obtain⟨d,rfl,q⟩:=q1
 cases r1
 exact wpAny_truthy_bool ⟨H1,I1,q⟩
variable {tA tB':TT}{rest:List Expr}
def tOr (t u:TT):TT:=fun σ H Q=>t σ H fun c H1=>if c=true then Q true H1 else u σ H1 Q
def tNot (t:TT):TT:=fun σ H Q=>t σ H fun c H1=>Q (!c) H1
theorem pw_or1 (ha:PT X a tA):PW X (.BoolOp .Or [a] pos) tA:=by
 intro wh pins s σ H Q I h
 refine isTrue_or (thn (ha pins s σ H Q I h) fun c s1 e=>?_)
 cases c with
 | false=>exact isTrue_or_nil e
 | true=>exact e
theorem pw_or (ha:PT X a tA)(hb:PW X (.BoolOp .Or (b::rest) pos) tB'):PW X (.BoolOp .Or (a::b::rest) pos) (tOr tA tB'):=by
 intro wh pins s σ H Q I h
 refine isTrue_or (thn (ha pins s σ H _ I h) fun c s1 hq3=>?_)
 obtain⟨H1,I1,q1⟩:=hq3
 cases c with
 | true=>exact⟨H1,I1,q1⟩
 | false=>exact hb wh pins s1 σ H1 Q I1 q1
theorem pt_not (ha:PT X a tA):PT X (.UnaryOp .Not a pos) (tNot tA):=by
 intro pins s σ H Q I h
 exact isTrue_not (thn (ha pins s σ H (fun c H1=>Q (!c) H1) I h) fun _ _ ⟨b,I,q⟩=>⟨b,I,q⟩)
def tAndV (ta tb:TE):TE:=fun σ H Q=>ta σ H fun x H1=>∃c,x=.bl c∧if c=true then tb σ H1 Q else Q (.bl false) H1
def tOrV (ta tb:TE):TE:=fun σ H Q=>ta σ H fun x H1=>∃c,x=.bl c∧if c=true then Q (.bl true) H1 else tb σ H1 Q
def tNotV (ta:TE):TE:=fun σ H Q=>ta σ H fun x H1=>∃c,x=.bl c∧Q (.bl (!c)) H1
theorem pe_one {op}{t:TE}(h:PE X a t):PE X (.BoolOp op [a] pos) t:=fun pins s σ H Q I hw=>BoolOp_one (h pins s σ H Q I hw)
theorem pe_and (ha:PE X a ta)(hb:PE X (.BoolOp .And (b::rest) pos) tb):PE X (.BoolOp .And (a::b::rest) pos) (tAndV ta tb):=by
 intro pins s σ H Q I h
 refine BoolOp_and (thn (ha pins s σ H _ I h) fun v s1 hq4=>?_)
 obtain⟨x,H1,I1,r1,q1⟩:=hq4
 obtain⟨c,rfl,q1⟩:=q1
 cases r1
 refine wpAny_truthy_bool ?_
 cases c with
 | true=>exact hb pins s1 σ H1 Q I1 q1
 | false=>exact⟨.bl false,H1,I1,rfl,q1⟩
theorem pe_or (ha:PE X a ta)(hb:PE X (.BoolOp .Or (b::rest) pos) tb):PE X (.BoolOp .Or (a::b::rest) pos) (tOrV ta tb):=by
 intro pins s σ H Q I h
 refine BoolOp_or (thn (ha pins s σ H _ I h) fun v s1 hq5=>?_)
 obtain⟨x,H1,I1,r1,q1⟩:=hq5
 obtain⟨c,rfl,q1⟩:=q1
 cases r1
 refine wpAny_truthy_bool ?_
 cases c with
 | false=>exact hb pins s1 σ H1 Q I1 q1
 | true=>exact⟨.bl true,H1,I1,rfl,q1⟩
theorem pe_not (ha:PE X a ta):PE X (.UnaryOp .Not a pos) (tNotV ta):=by
 intro pins s σ H Q I h
 refine UnaryOp_ (thn (ha pins s σ H _ I h) fun v s1 hq6=>?_)
 obtain⟨x,H1,I1,r1,q1⟩:=hq6
 obtain⟨c,rfl,q1⟩:=q1
 cases r1
 exact not_of (wpAny_truthy_bool ⟨.bl (!c),H1,I1,rfl,q1⟩)
end
end L2
namespace L2
open PySem PySem.Spec PyProof.Rows
def SqL (K:PySem.W.Frag)(H:Hp)(a:Addr)(xs:List V):Prop :=
 Rd H a (.lst xs) ∨
  ∃(o:Obj) (its:Array Value) (n:Nat),K.lookup a=some o∧o.cls=.type "list" ∧ o.dict=none∧o.data=.seq its n∧its.size≤sizeLine∧Vals xs its.toList
def SqT (K:PySem.W.Frag)(H:Hp)(a:Addr)(xs:List V):Prop :=
 Rd H a (.tup xs) ∨
  ∃(o:Obj) (its:Array Value) (n:Nat),K.lookup a=some o∧o.cls=.type "tuple" ∧ o.dict=none∧o.data=.seq its n∧its.size≤sizeLine∧Vals xs its.toList
def absV:Value→Option V
 | .none=>some .non
 | .bool b=>some (.bl b)
 | .int i _=>some (.int i)
 | .str x _=>some (.str x)
 | .bytes b _=>some (.byt b)
 | .float b _=>some (.flt b)
 | .ref a=>some (.ref a)
 | .type n=>some (.ty n)
 | _=>none
theorem RelV.abs {x:V}{u:Value}(r:RelV x u):absV u=some x:=by
 cases x with
 | non=>cases r;rfl
 | bl _=>cases r;rfl
 | int _=>obtain⟨t,rfl⟩:=r;rfl
 | str _=>obtain⟨t,rfl⟩:=r;rfl
 | byt _=>obtain⟨t,rfl⟩:=r;rfl
 | flt _=>obtain⟨t,rfl⟩:=r;rfl
 | ref _=>cases r;rfl
 | ty _=>cases r;rfl
theorem RelV.inj {x y:V}{u:Value}(r:RelV x u)(q:RelV y u):x=y:=Option.some.inj (r.abs.symm.trans q.abs)
theorem Vals.inj:∀{xs ys:List V}{us:List Value},Vals xs us→Vals ys us→xs=ys:=by
 intro xs ys us h k
 induction h generalizing ys with
 | nil=>cases k;rfl
 | cons r t ih=>cases k with|cons r' t'=>rw[r.inj r',ih t']
section
variable {X:Cx}{pins:List (Addr×Obj)}{σ:St}{H:Hp}{s:Shared}{a:Addr}{xs ys:List V}
theorem SqL.of {K:PySem.W.Frag}(h:H a=some (.lst xs)):SqL K H a xs:=.inl (.inl h)
theorem SqT.of {K:PySem.W.Frag}(h:H a=some (.tup xs)):SqT K H a xs:=.inl (.inl h)
theorem Inv.list (I:Inv X pins σ H s)(h:SqL X.K H a xs):∃its:List Value,Vals xs its∧PlainL s.heap a its.toArray∧xs.length≤sizeLine:=by
 rcases h with h|⟨o,its,n,hk,hc,hd,hs,hz,r⟩
 ·obtain⟨z,its,n,r,e⟩:=h.ok I.hok
  exact⟨its,r,⟨_,n,e,rfl,rfl,rfl⟩,z⟩
 ·refine⟨its.toList,r,⟨o,n,I.kIn a o hk,hc,hd,by simpa using hs⟩,?_⟩
  have e:=r.length
  simp only[Array.length_toList] at e
  omega
theorem Inv.tuple (I:Inv X pins σ H s)(h:SqT X.K H a xs):∃its:List Value,Vals xs its∧IsTup s.heap a its.toArray∧xs.length≤sizeLine:=by
 rcases h with h|⟨o,its,n,hk,hc,_,hs,hz,r⟩
 ·obtain⟨z,its,r,p⟩:=h.ok I.hok
  exact⟨its,r,p.tup,z⟩
 ·refine⟨its.toList,r,⟨o,I.kIn a o hk,hc,n,by simpa using hs⟩,?_⟩
  have e:=r.length
  simp only[Array.length_toList] at e
  omega
theorem Inv.list_inj (I:Inv X pins σ H s)(h:SqL X.K H a xs)(h':SqL X.K H a ys):xs=ys:=by
 obtain⟨its,r,⟨o,n,e,_,_,d⟩,_⟩:=I.list h
 obtain⟨its',r',⟨o',n',e',_,_,d'⟩,_⟩:=I.list h'
 rw[e] at e';cases e'
 rw[d] at d'
 injection d' with d1 _
 have:its=its':=by simpa using congrArg Array.toList d1
 subst this
 exact r.inj r'
theorem Inv.tuple_inj (I:Inv X pins σ H s)(h:SqT X.K H a xs)(h':SqT X.K H a ys):xs=ys:=by
 obtain⟨its,r,⟨o,e,_,n,d⟩,_⟩:=I.tuple h
 obtain⟨its',r',⟨o',e',_,n',d'⟩,_⟩:=I.tuple h'
 rw[e] at e';cases e'
 rw[d] at d'
 injection d' with d1 _
 have:its=its':=by simpa using congrArg Array.toList d1
 subst this
 exact r.inj r'
end
abbrev Cx.wish (X:Cx)(E:Value→Shared→Prop):Cx:={X with xe:=E}
abbrev Cx.nox (X:Cx):Cx:=X.wish fun _ _=>False
theorem Cx.Ok.wish {X:Cx}(ok:X.Ok)(E:Value→Shared→Prop):(X.wish E).Ok :=
 ⟨ok.mod,ok.kind,ok.glob,ok.blt,ok.above,ok.inj,ok.has,ok.cab,ok.hd,ok.frames,ok.stk,ok.exf,ok.bs,ok.bsz,ok.noex,ok.exfs,ok.funs,ok.frf⟩
theorem Cx.Ok.unwish {X:Cx}{E:Value→Shared→Prop}(ok:(X.wish E).Ok):X.Ok :=
 ⟨ok.mod,ok.kind,ok.glob,ok.blt,ok.above,ok.inj,ok.has,ok.cab,ok.hd,ok.frames,ok.stk,ok.exf,ok.bs,ok.bsz,ok.noex,ok.exfs,ok.funs,ok.frf⟩
section
variable {X:Cx}{pins:List (Addr×Obj)}{σ:St}{H:Hp}{s:Shared}{E:Value→Shared→Prop}
theorem Inv.wish (I:Inv X pins σ H s)(E:Value→Shared→Prop):Inv (X.wish E) pins σ H s:=⟨I.ok.wish E,I.os,I.bare,I.base,I.loc,I.cell,I.free,I.freeC,I.pin,I.hok,I.len⟩
theorem Inv.unwish (I:Inv (X.wish E) pins σ H s):Inv X pins σ H s:=⟨I.ok.unwish,I.os,I.bare,I.base,I.loc,I.cell,I.free,I.freeC,I.pin,I.hok,I.len⟩
theorem SP.unwish {D:Ends}{f:Flow}{s':Shared}(h:SP (X.wish E) pins D f s'):SP X pins D f s':=by
 cases f with
 | next=>obtain⟨σ',H',I,q⟩:=h;exact⟨σ',H',I.unwish,q⟩
 | brk=>obtain⟨σ',H',I,q⟩:=h;exact⟨σ',H',I.unwish,q⟩
 | cont=>obtain⟨σ',H',I,q⟩:=h;exact⟨σ',H',I.unwish,q⟩
 | ret u=>obtain⟨v,σ',H',I,r,q⟩:=h;exact⟨v,σ',H',I.unwish,r,q⟩
theorem PE.nox {e:Expr}{t:TE}(h:PE X.nox e t):PE X e t:=fun pins s σ H Q I hw =>
 wpAny_mono (h pins s σ H Q (I.wish _) hw) (fun _ _ ⟨v,H',I',r,q⟩=>⟨v,H',I'.unwish,r,q⟩) fun _ _ z=>False.elim z
theorem PT.nox {e:Expr}{t:TT}(h:PT X.nox e t):PT X e t:=fun pins s σ H Q I hw =>
 wpAny_mono (h pins s σ H Q (I.wish _) hw) (fun _ _ ⟨H',I',q⟩=>⟨H',I'.unwish,q⟩) fun _ _ z=>False.elim z
theorem PSs.nox {st:List Stmt}{t:TS}(h:PSs X.nox st t):PSs X st t:=fun pins s σ H D I hw =>
 wpAny_mono (h pins s σ H D (I.wish _) hw) (fun _ _ q=>q.unwish) fun _ _ z=>False.elim z
end
section
variable {X:Cx}{st:Stmt}{rest:List Stmt}{t u:TS}{e:Expr}{te:TE}{pos:Pos}
def tNext:TS:=fun D σ H=>D.nx σ H
def tSeq (t u:TS):TS:=fun D σ H=>t {D with nx:=u D} σ H
theorem pss_nil:PSs X [] tNext:=fun _ _ σ H _ I h=>wpAny_execs_nil ⟨σ,H,I,h⟩
theorem j4 (h1:PS X st t)(h2:PSs X rest u):PSs X (st::rest) (tSeq t u):=by
 intro pins s σ H D I h
 refine wpAny_execs_cons (thn (h1 pins s σ H {D with nx:=u D} I h) fun f s1 q=>?_)
 cases f with
 | next =>
  obtain⟨σ',H',I',q⟩:=q
  exact h2 pins s1 σ' H' D I' q
 | ret v=>exact q
 | brk=>exact q
 | cont=>exact q
theorem zcP (h1:PS X st t):PSs X [st] t:=by
 intro pins s σ H D I h
 refine wpAny_execs_cons (thn (h1 pins s σ H D I h) fun f s1 q=>?_)
 cases f with
 | next=>exact wpAny_execs_nil q
 | ret v=>exact q
 | brk=>exact q
 | cont=>exact q
theorem Inv.quiet {pins:List (Addr×Obj)}{σ:St}{H:Hp}{s:Shared}(I:Inv X pins σ H s):interactive X.env=false:=by simp[interactive,I.ok.kind]
def tDrop (te:TE):TS:=fun D σ H=>te σ H fun _ H1=>D.nx σ H1
theorem zcs (he:PE X e te)(hs:swapsWith e none pos.line X.env=pure false:=by rfl):PS X (.Expr e pos) (tDrop te):=by
 intro pins s σ H D I h
 exact wpAny_Expr_any (thn (he pins s σ H _ I h) fun v s1 ⟨x,H1,I1,r1,q1⟩=>⟨σ,H1,I1,q1⟩) I.quiet hs
def tRet (te:TE):TS:=fun D σ H=>te σ H D.rt
theorem ps_ret (he:PE X e te):PS X (.Return (some e) pos) (tRet te):=by
 intro pins s σ H D I h
 exact wpAny_Return_some (thn (he pins s σ H _ I h) fun v s1 ⟨x,H1,I1,r1,q1⟩=>⟨x,σ,H1,I1,r1,q1⟩)
def tIfS (c:TT)(t u:TS):TS:=fun D σ H=>c σ H fun b H1=>if b=true then t D σ H1 else u D σ H1
theorem ps_if {c:Expr}{a b:List Stmt}{tc:TT}(hc:PT X c tc)(ha:PSs X a t)(hb:PSs X b u):PS X (.If c a b pos) (tIfS tc t u):=by
 intro pins s σ H D I h
 refine wpAny_If (thn (hc pins s σ H _ I h) fun d s1 hq7=>?_)
 obtain⟨H1,I1,q1⟩:=hq7
 cases d with
 | true=>exact ha pins s1 σ H1 D I1 q1
 | false=>exact hb pins s1 σ H1 D I1 q1
def tNever:TS:=fun _ _ _=>False
theorem ps_never:PS X st tNever:=fun _ _ _ _ _ _ h=>h.elim
end
abbrev TG:=V→St→Hp→(St→Hp→Prop)→Prop
abbrev TGs:=List V→St→Hp→(St→Hp→Prop)→Prop
def PG (X:Cx)(target:Expr)(t:TG):Prop :=
 ∀ (pins:List (Addr×Obj)) (s:Shared) (σ:St) (H:Hp) (v:V) (u:Value) (Q:St→Hp→Prop),Inv X pins σ H s→RelV v u→t v σ H Q →
  wpAny (model X.prog X.w) X.A (assign target X.env u) (fun _ s'=>∃σ' H',Inv X pins σ' H' s'∧Q σ' H') X.xe s
def PGs (X:Cx)(ts:List Expr)(t:TGs):Prop :=
 ∀ (pins:List (Addr×Obj)) (s:Shared) (σ:St) (H:Hp) (vs:List V) (us:List Value) (Q:St→Hp→Prop),Inv X pins σ H s→Vals vs us→t vs σ H Q →
  wpAny (model X.prog X.w) X.A (assignInOrder ((assignEach ts X.env).map (·.2)) us) (fun _ s'=>∃σ' H',Inv X pins σ' H' s'∧Q σ' H') X.xe s
section
variable {X:Cx}{pos:Pos}
def wC (i:Nat):TG:=fun v σ H Q=>Q (σ.set i (some v)) H
theorem z9 {i:Nat}{x:Str}(hN:X.N.Nodup)(hi:X.N[i]? = some x)(hx:Loc X.env.scope x)(hf:X.fn x=true∨X.env.scope.names.lookup x=some .local:=by first|exact .inl rfl|exact .inr rfl|assumption):PG X (.Name x pos) (wC i):=by
 intro pins s σ H v u Q I r h
 exact wpAny_assign_Name (zcn I hN hi hx r (fun s' I'=>⟨_,H,I',h⟩) hf)
def gNil:TGs:=fun vs σ H Q=>vs=[]∧Q σ H
def za9 (t:TG)(u:TGs):TGs:=fun vs σ H Q=>∃v r,vs=v::r∧t v σ H fun σ' H'=>u r σ' H' Q
theorem pgs_nil:PGs X [] gNil:=by
 intro pins s σ H vs us Q I r h
 obtain⟨e,h⟩:=h
 subst e
 cases r
 exact assignInOrder_nil ⟨σ,H,I,h⟩
theorem pgs_cons {e:Expr}{es:List Expr}{t:TG}{u:TGs}(h1:PG X e t)(h2:PGs X es u)
  (hs:(assignEach (e::es) X.env).map (·.2)=assign e X.env::(assignEach es X.env).map (·.2):=by rfl):PGs X (e::es) (za9 t u):=by
 intro pins s σ H vs us Q I r h
 obtain⟨v,vr,e1,h⟩:=h
 subst e1
 cases r with
 | cons r rr =>
  rw[hs]
  refine assignInOrder_cons (thn (h1 pins s σ H _ _ _ I r h) fun _ s1 hq8=>?_)
  obtain⟨σ1,H1,I1,q1⟩:=hq8
  exact h2 pins s1 σ1 H1 _ _ Q I1 rr q1
def gTup (K:PySem.W.Frag)(n:Nat)(t:TGs):TG:=fun v σ H Q=>∃a xs,v=.ref a∧SqT K H a xs∧xs.length=n∧t xs σ H Q
theorem pg_tup {es:List Expr}{k:Nat}{t:TGs}{n:Nat}(hc:X.calm=true)(h:PGs X es t)
  (hn:(assignEach es X.env).length=n:=by rfl) (hst:(assignEach es X.env).findIdx? (·.1)=none:=by rfl):PG X (.Tuple es k pos) (gTup X.K n t):=by
 intro pins s σ H v u Q I r hw
 obtain⟨a,xs,e1,hq,hl,hw⟩:=hw
 subst e1
 cases r
 obtain⟨its,rv,ht,hz⟩:=I.tuple hq
 refine assign_Tuple_tuple (I.ok.hd hc) ht (by simp[hn,← hl,rv.length]) hst fun h' hx=>?_
 have I1:Inv X pins σ H {s with heap:=h'}:=I.kept (t':=s.toks) fun b o e=>hx b o (Nat.ne_of_lt (Heap.lt_size e)) e
 exact h pins _ σ H xs _ Q I1 (by simpa using rv) hw
def tAsg (te:TE)(g:TG):TS:=fun D σ H=>te σ H fun x H1=>g x σ H1 D.nx
theorem ps_asg {tg e:Expr}{te:TE}{g:TG}(he:PE X e te)(hg:PG X tg g)(hs:swapsWithSole [tg] e pos.line X.env=pure false:=by rfl)(hw:swappedStores [tg] e X.env=pure none:=by rfl)
  (h1:(assignEach [tg] X.env).map (·.2)=[assign tg X.env]:=by rfl):PS X (.Assign [tg] e pos) (tAsg te g):=by
 intro pins s σ H D I h
 refine wpAny_Assign_stores (thn (he pins s σ H _ I h) fun v s1 ⟨x,H1,I1,r1,q1⟩=>?_) hs hw
 rw[h1]
 exact thn (hg pins s1 σ H1 x v _ I1 r1 q1) fun _ s2 ⟨a,b,I,q⟩=>⟨a,b,I,q⟩
theorem zb5 {i:Nat}{x:Str}{e:Expr}{te:TE}{pos':Pos}(hN:X.N.Nodup)(hi:X.N[i]? = some x)(hx:Loc X.env.scope x)(he:PE X e te)(hs:swapsWith e (some (.Name x pos')) pos.line X.env=pure false:=by rfl)(hf:X.fn x=true∨X.env.scope.names.lookup x=some .local:=by first|exact .inl rfl|exact .inr rfl|assumption) :
  PS X (.Assign [.Name x pos'] e pos) (tAsg te (wC i)):=by
 intro pins s σ H D I h
 refine wpAny_Assign_Name (thn (he pins s σ H _ I h) fun v s1 ⟨y,H1,I1,r1,q1⟩=>?_) hs
 exact zcn I1 hN hi hx r1 (fun s2 I2=>⟨_,H1,I2,q1⟩) hf
end
section
variable {X:Cx}{pos:Pos}
def tWhile (c:TT)(tb:TS):TS:=fun D σ H=>∃W:Nat→St→Hp→Prop,(∃m,W m σ H)∧∀m σ H,W m σ H →
 c σ H fun b H1=>if b=true then ∃N:St→Hp→Prop,(∀σ' H',N σ' H'→∃m',m'<m∧W m' σ' H')∧tb {D with nx:=N,ct:=N,bk:=D.nx} σ H1 else D.nx σ H1
theorem ps_while {c:Expr}{body:List Stmt}{tc:TT}{tb:TS}(hp:PassesOwn (model X.prog X.w) X.A X.env X.xe)(hc:PT X c tc)(hb:PSs X body tb):PS X (.While c body [] pos) (tWhile tc tb):=by
 intro pins s σ H D I h
 obtain⟨W,⟨m0,w0⟩,turn⟩:=h
 refine wpAny_While (codeAny_whileLoop (fun n s'=>∃σ' H',Inv X pins σ' H' s'∧W n σ' H') ?_ m0 ⟨σ,H,I,w0⟩)
 rintro n s1 ⟨σ1,H1,I1,w1⟩
 refine wpAny_passesOwn hp (thn (hc pins s1 σ1 H1 _ I1 (turn n σ1 H1 w1)) fun b s2 hq9=>?_)
 obtain⟨H2,I2,q2⟩:=hq9
 cases b with
 | true =>
  obtain⟨N,hN,q2⟩:=q2
  rw[if_pos rfl]
  refine wpAny_passesOwn hp (thn (hb pins s2 σ1 H2 _ I2 q2) fun f s3 q3=>?_)
  cases f with
  | next =>
   obtain⟨σ3,H3,I3,n3⟩:=q3
   obtain⟨m',hm,w3⟩:=hN σ3 H3 n3
   exact⟨m',hm,σ3,H3,I3,w3⟩
  | cont =>
   obtain⟨σ3,H3,I3,n3⟩:=q3
   obtain⟨m',hm,w3⟩:=hN σ3 H3 n3
   exact⟨m',hm,σ3,H3,I3,w3⟩
  | brk=>exact q3
  | ret v=>exact q3
 | false =>
  rw[if_neg Bool.false_ne_true]
  exact wpAny_execs_nil ⟨σ1,H2,I2,q2⟩
end
structure It where
 go:Nat→Hp→Prop
 yld:Nat→Hp→V→Hp→Prop
 stop:Nat→Hp→Prop
def FpOk (X:Cx)(pins:List (Addr×Obj))(H:Hp)(b:Addr):Prop :=
 H b=none∧b≠X.env.locals∧b∉X.fs∧(b∈X.ex∨X.s₀.heap.objs.size≤b)∧(∀x c,X.env.cells.lookup x=some c→c≠b)∧∀p∈X.pn++pins,p.1≠b
theorem Inv.fpOk {X:Cx}{pins:List (Addr×Obj)}{σ:St}{H H':Hp}{s:Shared}{b:Addr}(I:Inv X pins σ H s)(hb:s.heap.objs.size≤b)(hn:H' b=none):FpOk X pins H' b:=by
 refine⟨hn,Nat.ne_of_gt (Nat.lt_of_lt_of_le I.lt hb),I.nofs hb,.inr (Nat.le_trans I.sz hb),fun x c e z=>?_,fun p hp z=>?_⟩
 ·obtain⟨v,q⟩:=I.cell x c e
  exact absurd (Nat.lt_of_lt_of_le q.lt (by rw[z];exact hb)) (Nat.lt_irrefl _)
 ·exact absurd (Nat.lt_of_lt_of_le (Heap.lt_size (I.pin p hp).1) (by rw[z];exact hb)) (Nat.lt_irrefl _)
structure Turn (P:Program)(w:World)(K:PySem.W.Frag)(tg:Expr)(J:It)(fp:List Addr)(it:Addr)(tn:Nat→Heap→Prop):Prop where
 mem:it∈fp
 obj:∀i h,tn i h→∀b∈fp,∃o,h.get? b=some o∧∀v,o.data≠.cell v
 keep:∀i h h',tn i h→(∀b∈fp,∀o,h.get? b=some o→h'.get? b=some o)→tn i h'
 item:∀(X:Cx),X.prog=P→X.w=w→X.K=K→X.calm=true→∀(i:Nat) (pins:List (Addr×Obj)) (s:Shared) (σ:St) (H:Hp) (E:Value→Shared→Prop),Inv X pins σ H s→(∀b∈fp,FpOk X pins H b)→tn i s.heap→J.go i H →
  wpAny (model P w) X.A (pyNext (.ref it)) (fun r s1=>∃u,r=some u ∧
   wpAny (model P w) X.A (letOwnedTupleGo tg (.ref it) u) (fun _ s2=>∃x H',Inv X pins σ H' s2∧RelV x u∧J.yld i H x H'∧tn (i+1) s2.heap∧∀b∈fp,H' b=none) E s1) E s
 done:∀(X:Cx),X.prog=P→X.w=w→X.K=K→X.calm=true→∀(i:Nat) (pins:List (Addr×Obj)) (s:Shared) (σ:St) (H:Hp) (E:Value→Shared→Prop),Inv X pins σ H s→(∀b∈fp,FpOk X pins H b)→tn i s.heap→J.stop i H →
  wpAny (model P w) X.A (pyNext (.ref it)) (fun r s1=>r=none∧Inv X pins σ H s1) E s
 self:∀(A:Around) (i:Nat) (s:Shared) (Q:Value→Shared→Prop) (E:Value→Shared→Prop),tn i s.heap→Q (.ref it) s→wpAny (model P w) A (pyIter (.ref it)) Q E s
abbrev TI:=St→Hp→(It→Hp→Prop)→Prop
inductive PIE (X:Cx)(pins:List (Addr×Obj))(σ:St)(tg:Expr)(R:It→Hp→Prop)(itv:Value)(s2:Shared):Prop
 | mk (it:Addr) (fp:List Addr) (tn:Nat→Heap→Prop) (J:It) (H':Hp) (e:itv=.ref it) (I:Inv X pins σ H' s2) (T:Turn X.prog X.w X.K tg J fp it tn) (z:tn 0 s2.heap) (f:(∀b∈fp,FpOk X pins H' b)) (q:R J H')
def PI (X:Cx)(tg iter:Expr)(wi:TI):Prop :=
 ∀ (pins:List (Addr×Obj)) (s:Shared) (σ:St) (H:Hp) (R:It→Hp→Prop),Inv X pins σ H s→wi σ H R →
  wpAny (model X.prog X.w) X.A (eval iter X.env) (fun v s1=>wpAny (model X.prog X.w) X.A (pyIter v) (PIE X pins σ tg R) X.xe s1) X.xe s
theorem go_of {M:Model}{A:Around}{E:Value→Shared→Prop}{s:Shared}{tg:Expr}{it:Addr}{u:Value}{o:Obj}{n:String}{vs:Array Value}{Q:Unit→Shared→Prop}(ho:s.heap.get? it=some o)(hc:o.cls=.type n)(hd:o.data=.fields vs)
  (hn:["enumerate", "zip", "dict_itemiterator", "dict_reverseitemiterator", "odict_iterator", "itertools.zip_longest", "itertools.pairwise"].contains n=false) (hQ:Q () s):wpAny M A (letOwnedTupleGo tg (.ref it) u) Q E s:=by
 unfold letOwnedTupleGo
 cases tg <;>first
  | exact wpAny_pure hQ
  | (cases u <;>first
    | exact wpAny_pure hQ
    | (refine wpAny_bind (wpAny_load ho ?_)
       rw[hc,hd]
       show wpAny M A (if (["enumerate", "zip", "dict_itemiterator", "dict_reverseitemiterator", "odict_iterator", "itertools.zip_longest", "itertools.pairwise"].contains n&&vs[0]? == some (rawInt _))=true then _ else _) Q E s
       rw[if_neg (by intro h;rw[hn,Bool.false_and] at h;cases h)]
       exact wpAny_pure hQ))
def Itl (K:PySem.W.Frag)(a:Addr):It :=
 ⟨fun i H=>∃xs x,SqL K H a xs∧xs[i]? = some x,fun i H x H'=>H'=H∧∀xs,SqL K H a xs→xs[i]? = some x,fun i H=>∃xs,SqL K H a xs∧xs.length≤i⟩
def Itt (K:PySem.W.Frag)(a:Addr):It :=
 ⟨fun i H=>∃xs x,SqT K H a xs∧xs[i]? = some x,fun i H x H'=>H'=H∧∀xs,SqT K H a xs→xs[i]? = some x,fun i H=>∃xs,SqT K H a xs∧xs.length≤i⟩
def Itr (lo:Int)(n:Nat):It:=⟨fun i _=>i<n,fun i H x H'=>H'=H∧x=.int (lo+i),fun i _=>n≤i⟩
theorem turn_list {P:Program}{w:World}{K:PySem.W.Frag}{tg:Expr}(a it:Addr):Turn P w K tg (Itl K a) [it] it (fun i h=>h.IsListIter it a i) where
 mem:=by simp
 obj:=fun i h st b hb=>by
  have e:b=it:=by simpa using hb
  subst e
  obtain⟨o,e,c,d⟩:=st
  exact⟨o,e,fun v z=>by rw[d] at z;cases z⟩
 keep:=fun i h h' st k=>st.at fun o e=>k it (by simp) o e
 item:=by
  intro X hP hw hK hc i pins s σ H E I hf st hg
  subst hP hw hK
  obtain⟨xs,x,hq,hx⟩:=hg
  obtain⟨its,rv,p,hz⟩:=I.list hq
  obtain⟨u,hu,ru⟩:=rv.get hx
  obtain⟨f0,f1,f2,f3,f4,f5⟩:=hf it (by simp)
  refine wpAny_pyNext_list_item st p.isList (x:=u) (by simpa using hu) fun h' st' sb=>?_
  have I1:Inv X pins σ H {s with heap:=h'}:=I.turned (t':=s.toks) (fun b o hb e=>(sb.2 b hb).trans e) f0 f1 f3 f4 f5
  obtain⟨o,e,c,d⟩:=id st'
  exact⟨u,rfl,go_of (s:={s with heap:=h'}) e c d (by decide) ⟨x,H,I1,ru,⟨rfl,fun ys hy=>by rw[I.list_inj hy hq];exact hx⟩,st',fun b hb=>(hf b hb).1⟩⟩
 done:=by
  intro X hP hw hK hc i pins s σ H E I hf st hg
  subst hP hw hK
  obtain⟨xs,hq,hx⟩:=hg
  obtain⟨its,rv,p,hz⟩:=I.list hq
  obtain⟨f0,f1,f2,f3,f4,f5⟩:=hf it (by simp)
  have hl:=rv.length
  exact wpAny_pyNext_list_end (I.ok.hd hc) st p.isList (by simp;omega) fun h' eb=>⟨rfl,I.turned (t':=s.toks) (fun b o hb e=>eb b o hb e) f0 f1 f3 f4 f5⟩
 self:=fun _ _ _ _ _ st h=>wpAny_pyIter_listiter st h
theorem turn_tuple {P:Program}{w:World}{K:PySem.W.Frag}{tg:Expr}(a it:Addr):Turn P w K tg (Itt K a) [it] it (fun i h=>h.IsTupleIter it a i) where
 mem:=by simp
 obj:=fun i h st b hb=>by
  have e:b=it:=by simpa using hb
  subst e
  obtain⟨o,e,c,d⟩:=st
  exact⟨o,e,fun v z=>by rw[d] at z;cases z⟩
 keep:=fun i h h' st k=>st.at fun o e=>k it (by simp) o e
 item:=by
  intro X hP hw hK hc i pins s σ H E I hf st hg
  subst hP hw hK
  obtain⟨xs,x,hq,hx⟩:=hg
  obtain⟨its,rv,p,hz⟩:=I.tuple hq
  obtain⟨u,hu,ru⟩:=rv.get hx
  obtain⟨f0,f1,f2,f3,f4,f5⟩:=hf it (by simp)
  refine wpAny_pyNext_tuple_item st (show s.heap.IsTuple a its.toArray from p) (x:=u) (by simpa using hu) fun h' st' sb=>?_
  have I1:Inv X pins σ H {s with heap:=h'}:=I.turned (t':=s.toks) (fun b o hb e=>(sb.2 b hb).trans e) f0 f1 f3 f4 f5
  obtain⟨o,e,c,d⟩:=id st'
  exact⟨u,rfl,go_of (s:={s with heap:=h'}) e c d (by decide) ⟨x,H,I1,ru,⟨rfl,fun ys hy=>by rw[I.tuple_inj hy hq];exact hx⟩,st',fun b hb=>(hf b hb).1⟩⟩
 done:=by
  intro X hP hw hK hc i pins s σ H E I hf st hg
  subst hP hw hK
  obtain⟨xs,hq,hx⟩:=hg
  obtain⟨its,rv,p,hz⟩:=I.tuple hq
  obtain⟨f0,f1,f2,f3,f4,f5⟩:=hf it (by simp)
  have hl:=rv.length
  exact wpAny_pyNext_tuple_end (I.ok.hd hc) st (show s.heap.IsTuple a its.toArray from p) (by simp;omega) fun h' eb=>⟨rfl,I.turned (t':=s.toks) (fun b o hb e=>eb b o hb e) f0 f1 f3 f4 f5⟩
 self:=fun _ _ _ _ _ st h=>wpAny_pyIter_tupleiter st h
theorem turn_range {P:Program}{w:World}{K:PySem.W.Frag}{tg:Expr}(it:Addr)(lo:Int)(n:Nat):Turn P w K tg (Itr lo n) [it] it (fun i h=>IsRangeIter h it (lo+(i:Nat)*1) ((n:Int) - (i:Nat)) 1) where
 mem:=by simp
 obj:=fun i h st b hb=>by
  have e:b=it:=by simpa using hb
  subst e
  exact ⟨_,st,fun v z=>by
   have z':Data.fields _=Data.cell v:=z
   cases z'⟩
 keep:=fun i h h' st k=>k it (by simp) _ st
 item:=by
  intro X hP hw hK hc i pins s σ H E I hf st hg
  subst hP hw hK
  obtain⟨f0,f1,f2,f3,f4,f5⟩:=hf it (by simp)
  have W:=Walks.range (prog:=X.prog) (w:=X.w) (I.ok.hd hc) it lo 1 n
  refine W.item i s _ _ hg st fun v h' tk hv st' kk=>?_
  obtain⟨t,rfl⟩:=hv
  have I1:Inv X pins σ H {s with heap:=h',toks:=tk}:=I.turned (fun b o hb e=>kk b o (by simpa using hb) e) f0 f1 f3 f4 f5
  refine⟨_,rfl,go_of (s:={s with heap:=h',toks:=tk}) (n := "range_iterator") st' rfl rfl (by decide) ⟨.int (lo+i),H,I1,⟨t,?_⟩,⟨rfl,rfl⟩,st',fun b hb=>(hf b hb).1⟩⟩
  rw[Int.mul_one]
 done:=by
  intro X hP hw hK hc i pins s σ H E I hf st hg
  subst hP hw hK
  obtain⟨f0,f1,f2,f3,f4,f5⟩:=hf it (by simp)
  exact wpAny_pyNext_range_end (I.ok.hd hc) st (by have:n≤i:=hg;omega) fun h' eb=>⟨rfl,I.turned (t':=s.toks) (fun b o hb e=>eb b o hb e) f0 f1 f3 f4 f5⟩
 self:=fun _ _ _ _ _ st h=>wpAny_pyIter_rangeiter st h
end L2
namespace L2
open PySem PySem.Spec PyProof.Rows
section
variable {X:Cx}{tg:Expr}
def iList (K:PySem.W.Frag)(tl:TE):TI:=fun σ H R=>tl σ H fun x H1=>∃a,x=.ref a∧(∃xs,SqL K H1 a xs)∧R (Itl K a) H1
def iTup (K:PySem.W.Frag)(tl:TE):TI:=fun σ H R=>tl σ H fun x H1=>∃a,x=.ref a∧(∃xs,SqT K H1 a xs)∧R (Itt K a) H1
theorem pi_list {l:Expr}{tl:TE}(hl:PE X l tl):PI X tg l (iList X.K tl):=by
 intro pins s σ H R I h
 refine thn (hl pins s σ H _ I h) fun v s1 hq10=>?_
 obtain⟨x,H1,I1,r1,q1⟩:=hq10
 obtain⟨a,e,⟨xs,hq⟩,q⟩:=q1
 subst e
 cases r1
 obtain⟨its,rv,p,hz⟩:=I1.list hq
 refine wpAny_pyIter_list p.isList ?_
 refine⟨s1.heap.objs.size,[s1.heap.objs.size],_,_,H1,rfl,I1.kept (t':=s1.toks) fun b o e=>Heap.get?_push_of_some _ e,turn_list a _,⟨_,Heap.get?_push_size _ rfl,rfl,rfl⟩,fun b hb=>?_,q⟩
 have e:b=s1.heap.objs.size:=by simpa using hb
 subst e
 exact I1.fpOk (Nat.le_refl _) (I1.hok.fresh (Nat.le_refl _))
theorem pi_tup {l:Expr}{tl:TE}(hl:PE X l tl):PI X tg l (iTup X.K tl):=by
 intro pins s σ H R I h
 refine thn (hl pins s σ H _ I h) fun v s1 hq11=>?_
 obtain⟨x,H1,I1,r1,q1⟩:=hq11
 obtain⟨a,e,⟨xs,hq⟩,q⟩:=q1
 subst e
 cases r1
 obtain⟨its,rv,p,hz⟩:=I1.tuple hq
 refine wpAny_pyIter_tuple (show s1.heap.IsTuple a its.toArray from p) ?_
 refine⟨s1.heap.objs.size,[s1.heap.objs.size],_,_,H1,rfl,I1.kept (t':=s1.toks) fun b o e=>Heap.get?_push_of_some _ e,turn_tuple a _,⟨_,Heap.get?_push_size _ rfl,rfl,rfl⟩,fun b hb=>?_,q⟩
 have e:b=s1.heap.objs.size:=by simpa using hb
 subst e
 exact I1.fpOk (Nat.le_refl _) (I1.hok.fresh (Nat.le_refl _))
theorem range_it {pins:List (Addr×Obj)}{σ:St}{H:Hp}{s:Shared}{R:It→Hp→Prop}{E:Value→Shared→Prop}{lo hi:Int}{t u v:Tok}{tk:Nat}(I:Inv X pins σ H s)(h1:-(2 ^ 62)≤lo)(h2:lo<2 ^ 62)(h3:-(2 ^ 62)≤hi)(h4:hi<2 ^ 62)
  (q:R (Itr lo (hi - lo).toNat) H):wpAny (model X.prog X.w) X.A (pyIter (.ref s.heap.objs.size)) (PIE X pins σ tg R) E {s with heap:=s.heap.push {cls:=.type "range", data:=.fields #[.int lo t,.int hi u,.int 1 v]},toks:=tk}:=by
 refine wpAny_pyIter_range (IsRange.new ..) (small_one h1 h2 h3 h4) ?_
 have I1:Inv X pins σ H {s with heap:=s.heap.push {cls:=.type "range", data:=.fields #[.int lo t,.int hi u,.int 1 v]},toks:=tk}:=I.kept fun b o e=>Heap.get?_push_of_some _ e
 refine ⟨(s.heap.push {cls:=.type "range", data:=.fields #[.int lo t,.int hi u,.int 1 v]}).objs.size,[(s.heap.push {cls:=.type "range", data:=.fields #[.int lo t,.int hi u,.int 1 v]}).objs.size],_,_,H,rfl,
  I1.kept (t':=tk) fun b o e=>Heap.get?_push_of_some _ e,turn_range _ lo (hi - lo).toNat,?_,fun b hb=>?_,q⟩
 ·have e1:lo+((0:Nat):Int)*1=lo:=by simp
  have e2:(((hi - lo).toNat:Nat):Int) - ((0:Nat):Int)=Builtin.Range.rangeSize lo hi 1:=by rw[rangeSize_one];split <;>omega
  show IsRangeIter _ _ (lo+((0:Nat):Int)*1) ((((hi - lo).toNat:Nat):Int) - ((0:Nat):Int)) 1
  rw[e1,e2]
  exact Heap.get?_push_size _ rfl
 ·have e:b=(s.heap.push {cls:=.type "range", data:=.fields #[.int lo t,.int hi u,.int 1 v]}).objs.size:=by simpa using hb
  subst e
  exact I1.fpOk (Nat.le_refl _) (I1.hok.fresh (Nat.le_refl _))
def iRng1 (ta:TA):TI:=fun σ H R=>ta σ H fun vs H1=>∃j:Int,vs=[.int j]∧-(2 ^ 62)≤j∧j<2 ^ 62∧R (Itr 0 j.toNat) H1
theorem pi_range1 {a:Expr}{ta:TA}{p pos:Pos}(hg:Gl X "range")(hm:X.mg "range" = none)(ha:PA X [a] ta)(hs:starEach [a] X.env=[(false,eval a X.env)]:=by rfl):PI X tg (.Call (.Name "range" p) [a] [] pos) (iRng1 ta):=by
 intro pins s σ H R I h
 refine Call_ (zas I hg hm boot_range (PyProof.Rows.callWith_type1 (thn (ha pos pins s σ H _ I h) fun us s1 ⟨vs,H1,I1,r1,q1⟩=>?_) hs rfl))
 obtain⟨j,e,q1,q2,q⟩:=q1
 subst e
 cases r1 with
 | cons r rr =>
  cases rr
  obtain⟨t,rfl⟩:=r
  exact call_range_1 (range_it I1 (by omega) (by omega) q1 q2 (by simpa using q))
def tFor (wi:TI)(g:TG)(tb:TS):TS:=fun D σ H=>wi σ H fun J H1=>∃W:Nat→Nat→St→Hp→Prop,(∃m,W 0 m σ H1)∧∀i m σ H,W i m σ H →
 (J.stop i H∧D.nx σ H)∨(J.go i H∧∃N:St→Hp→Prop,(∀σ' H',N σ' H'→∃m',m'<m∧W (i+1) m' σ' H')∧∀x H',J.yld i H x H'→g x σ H' fun σ2 H2=>tb {D with nx:=N,ct:=N,bk:=D.nx} σ2 H2)
def zbm (fp:List Addr)(h:Heap):List (Addr×Obj):=fp.filterMap fun b=>(h.get? b).map fun o=>(b,o)
theorem qW {fp:List Addr}{h:Heap}{b:Addr}{o:Obj}(hb:b∈fp)(e:h.get? b=some o):(b,o)∈zbm fp h:=List.mem_filterMap.mpr ⟨b,hb,by rw[e];rfl⟩
theorem zdm {fp:List Addr}{h:Heap}{p:Addr×Obj}(hp:p∈zbm fp h):p.1∈fp∧h.get? p.1=some p.2:=by
 obtain⟨b,hb,e⟩:=List.mem_filterMap.mp hp
 cases q:h.get? b with
 | none=>rw[q] at e;cases e
 | some o =>
  rw[q] at e
  have e':(b,o)=p:=Option.some.inj e
  subst e'
  exact⟨hb,q⟩
theorem Inv.pinned {pins:List (Addr×Obj)}{σ:St}{H:Hp}{s:Shared}{fp:List Addr}(I:Inv X pins σ H s)(hf:∀b∈fp,FpOk X pins H b)(ho:∀b∈fp,∃o,s.heap.get? b=some o∧∀v,o.data≠.cell v):Inv X (pins++zbm fp s.heap) σ H s :=
 I.pins_of fun p hp=>(List.mem_append.mp hp).elim (fun z=>I.pin p (List.mem_append_right _ z)) fun z=>by
  obtain⟨hb,e⟩:=zdm z
  obtain⟨f0,f1,f2,_⟩:=hf p.1 hb
  obtain⟨o,e',d⟩:=ho p.1 hb
  rw[e] at e';cases e'
  exact⟨e,f0,f1,f2,d⟩
theorem Inv.unpinned {pins pl:List (Addr×Obj)}{σ:St}{H:Hp}{s:Shared}(I:Inv X (pins++pl) σ H s):Inv X pins σ H s:=I.pins_of fun p hp=>I.pin p (List.mem_append_right _ (List.mem_append_left _ hp))
theorem ps_for {iter:Expr}{body:List Stmt}{wi:TI}{g:TG}{tb:TS}{pos:Pos}(hp:PassesOwn (model X.prog X.w) X.A X.env X.xe)(hc:X.calm=true)(hi:PI X tg iter wi)(hg:PG X tg g)(hb:PSs X body tb)
  (hs:∀x,foldedSetIterable iter X.env x=pure x:=by intro _;rfl):PS X (.For tg iter body [] pos) (tFor wi g tb):=by
 intro pins s σ H D I h
 refine wpAny_For (thn (hi pins s σ H _ I h) fun v s1 h1=>thn h1 fun itv s2 h2=>?_) hs
 obtain⟨it,fp,tn,J,H2,e,I2,T,st2,f2,W,⟨m0,w0⟩,turn⟩:=h2
 subst e
 have stat:∀{H':Hp},(∀b∈fp,H' b=none)→∀b∈fp,FpOk X pins H' b:=fun hn b hb=>⟨hn b hb,(f2 b hb).2⟩
 refine codeAny_forLoop_any (fun n s'=>∃i σ' H',Inv X pins σ' H' s'∧tn i s'.heap∧(∀b∈fp,H' b=none)∧W i n σ' H') ?_ m0 ⟨0,σ,H2,I2,st2,fun b hb=>(f2 b hb).1,w0⟩
 rintro n s3 ⟨i,σ3,H3,I3,st3,fr3,w3⟩
 rcases turn i n σ3 H3 w3 with⟨stop,qn⟩|⟨go,N,hN,step⟩
 ·refine wpAny_passesOwn hp (thn (T.done X rfl rfl rfl hc i pins s3 σ3 H3 X.xe I3 (stat fr3) st3 stop) fun r s4 hq12=>?_)
  obtain⟨hr,I4⟩:=hq12
  subst hr
  exact wpAny_execs_nil ⟨σ3,H3,I4,qn⟩
 ·refine wpAny_passesOwn hp (thn (T.item X rfl rfl rfl hc i pins s3 σ3 H3 X.xe I3 (stat fr3) st3 go) fun r s4 hq13=>?_)
  obtain⟨u,hr,h4⟩:=hq13
  subst hr
  refine wpAny_passesOwn hp (thn h4 fun _ s5 hq14=>?_)
  obtain⟨x,H5,I5,r5,y5,st5,fr5⟩:=hq14
  have I5':=I5.pinned (stat fr5) (T.obj _ _ st5)
  refine wpAny_passesOwn hp (thn (hg _ s5 σ3 H5 x u _ I5' r5 (step x H5 y5)) fun _ s6 hq15=>?_)
  obtain⟨σ6,H6,I6,q6⟩:=hq15
  refine wpAny_passesOwn hp (thn (hb _ s6 σ6 H6 _ I6 q6) fun f s7 q7=>?_)
  have again:∀{σ7:St}{H7:Hp},Inv X (pins++zbm fp s5.heap) σ7 H7 s7→N σ7 H7→∃m,m<n∧∃i σ' H',Inv X pins σ' H' s7∧tn i s7.heap∧(∀b∈fp,H' b=none)∧W i m σ' H':=fun {σ7 H7} I7 n7=>by
   obtain⟨m',hm,w7⟩:=hN σ7 H7 n7
   refine⟨m',hm,i+1,σ7,H7,I7.unpinned,T.keep _ _ _ st5 fun b hb o e=>(I7.pin (b,o) (List.mem_append_right _ (List.mem_append_right _ (qW hb e)))).1,fun b hb=>?_,w7⟩
   obtain⟨o,e,d⟩:=T.obj _ _ st5 b hb
   exact(I7.pin (b,o) (List.mem_append_right _ (List.mem_append_right _ (qW hb e)))).2.1
  cases f with
  | next=>obtain⟨σ7,H7,I7,n7⟩:=q7;exact again I7 n7
  | cont=>obtain⟨σ7,H7,I7,n7⟩:=q7;exact again I7 n7
  | brk=>obtain⟨σ7,H7,I7,q7⟩:=q7;exact⟨σ7,H7,I7.unpinned,q7⟩
  | ret v=>obtain⟨x7,σ7,H7,I7,r7,q7⟩:=q7;exact⟨x7,σ7,H7,I7.unpinned,r7,q7⟩
end
end L2
namespace L2
open PySem PySem.Spec PyProof.Rows
abbrev R2:=V→V→Hp→VK→Prop
def OpR (X:Cx)(f:Value→Value→Sem Value)(r:R2):Prop :=
 ∀ (pins:List (Addr×Obj)) (s:Shared) (σ:St) (H:Hp) (x y:V) (v u:Value) (Q:VK),Inv X pins σ H s→RelV x v→RelV y u→r x y H Q →
  wpAny (model X.prog X.w) X.A (f v u) (EP X pins σ Q) X.xe s
def UnR (X:Cx)(f:Value→Sem Value)(r:V→Hp→VK→Prop):Prop :=
 ∀ (pins:List (Addr×Obj)) (s:Shared) (σ:St) (H:Hp) (x:V) (v:Value) (Q:VK),Inv X pins σ H s→RelV x v→r x H Q →
  wpAny (model X.prog X.w) X.A (f v) (EP X pins σ Q) X.xe s
def jj (X:Cx)(f:Value)(r:List V→Hp→VK→Prop):Prop :=
 ∀ (pins:List (Addr×Obj)) (s:Shared) (σ:St) (H:Hp) (xs:List V) (us:List Value) (Q:VK),Inv X pins σ H s→Vals xs us→r xs H Q →
  wpAny (model X.prog X.w) X.A (call f us) (EP X pins σ Q) X.xe s
def tOp (r:R2)(ta tb:TE):TE:=fun σ H Q=>ta σ H fun x H1=>tb σ H1 fun y H2=>r x y H2 Q
def tUn (r:V→Hp→VK→Prop)(ta:TE):TE:=fun σ H Q=>ta σ H fun x H1=>r x H1 Q
def rI (C:Int→Int→Prop)(g:Int→Int→V):R2:=fun x y H Q=>∃i j,x=.int i∧y=.int j∧C i j∧Q (g i j) H
def rI0 (g:Int→Int→V):R2:=fun x y H Q=>∃i j,x=.int i∧y=.int j∧Q (g i j) H
def rU (g:Int→V):V→Hp→VK→Prop:=fun x H Q=>∃i,x=.int i∧Q (g i) H
section
variable {X:Cx}{a b c:Expr}{ta tb tc:TE}{pos:Pos}
theorem binT (ha:PE X a ta)(hb:PE X b tb){pins:List (Addr×Obj)}{s:Shared}{σ:St}{H:Hp}{R:V→V→Hp→Prop}(I:Inv X pins σ H s)
  (h:ta σ H fun x H1=>tb σ H1 fun y H2=>R x y H2) {Q:Value→Shared→Prop}{f:Value→Value→Sem Value}
  (hf:∀v u s2 x y H2,Inv X pins σ H2 s2→RelV x v→RelV y u→R x y H2→wpAny (model X.prog X.w) X.A (f v u) Q X.xe s2) :
  wpAny (model X.prog X.w) X.A (eval a X.env) (fun v s₁=>wpAny (model X.prog X.w) X.A (eval b X.env) (fun u s₂=>wpAny (model X.prog X.w) X.A (f v u) Q X.xe s₂) X.xe s₁) X.xe s:=by
 refine thn (ha pins s σ H _ I h) fun v s1 hq16=>?_
 obtain⟨x,H1,I1,r1,q1⟩:=hq16
 refine thn (hb pins s1 σ H1 _ I1 q1) fun u s2 hq17=>?_
 obtain⟨y,H2,I2,r2,q2⟩:=hq17
 exact hf v u s2 x y H2 I2 r1 r2 q2
theorem pe_op {op:Operator}{r:R2}(ho:OpR X (binaryOp op) r)(ha:PE X a ta)(hb:PE X b tb):PE X (.BinOp a op b pos) (tOp r ta tb):=by
 intro pins s σ H Q I h
 exact wpAny_BinOp (binT ha hb I h fun v u s2 x y H2 I2 rx ry q=>ho pins s2 σ H2 x y v u Q I2 rx ry q)
theorem pe_un {op:UnaryOp}{r:V→Hp→VK→Prop}(ho:UnR X (unaryOp op) r)(ha:PE X a ta):PE X (.UnaryOp op a pos) (tUn r ta):=by
 intro pins s σ H Q I h
 exact UnaryOp_ (thn (ha pins s σ H _ I h) fun v s1 ⟨x,H1,I1,r1,q1⟩=>ho pins s1 σ H1 x v Q I1 r1 q1)
theorem opI {f:Value→Value→Sem Value}{C:Int→Int→Prop}{g:Int→Int→Int}
  (rule:∀(i j:Int) (t u:Tok) (s:Shared) (Q:Value→Shared→Prop) (E:Value→Shared→Prop),C i j→Q (.int (g i j) s.toks) {s with toks:=s.toks+1}→wpAny (model X.prog X.w) X.A (f (.int i t) (.int j u)) Q E s) :
  OpR X f (rI C fun i j=>.int (g i j)):=by
 intro pins s σ H x y v u Q I rx ry h
 obtain⟨i,j,rfl,rfl,hc,q⟩:=h
 obtain⟨t,rfl⟩:=rx
 obtain⟨t',rfl⟩:=ry
 exact rule i j t t' s _ _ hc ⟨.int (g i j),H,I.tok _,⟨_,rfl⟩,q⟩
theorem opI0 {f:Value→Value→Sem Value}{g:Int→Int→Int}
  (rule:∀(i j:Int) (t u:Tok) (s:Shared) (Q:Value→Shared→Prop) (E:Value→Shared→Prop),Q (.int (g i j) s.toks) {s with toks:=s.toks+1}→wpAny (model X.prog X.w) X.A (f (.int i t) (.int j u)) Q E s) :
  OpR X f (rI0 fun i j=>.int (g i j)):=by
 intro pins s σ H x y v u Q I rx ry h
 obtain⟨i,j,rfl,rfl,q⟩:=h
 obtain⟨t,rfl⟩:=rx
 obtain⟨t',rfl⟩:=ry
 exact rule i j t t' s _ _ ⟨.int (g i j),H,I.tok _,⟨_,rfl⟩,q⟩
theorem opB0 {f:Value→Value→Sem Value}{g:Int→Int→Bool}
  (rule:∀(i j:Int) (t u:Tok) (s:Shared) (Q:Value→Shared→Prop) (E:Value→Shared→Prop),Q (.bool (g i j)) s→wpAny (model X.prog X.w) X.A (f (.int i t) (.int j u)) Q E s) :
  OpR X f (rI0 fun i j=>.bl (g i j)):=by
 intro pins s σ H x y v u Q I rx ry h
 obtain⟨i,j,rfl,rfl,q⟩:=h
 obtain⟨t,rfl⟩:=rx
 obtain⟨t',rfl⟩:=ry
 exact rule i j t t' s _ _ ⟨.bl (g i j),H,I,rfl,q⟩
def CMul (i j:Int):Prop:=(-(2 ^ 64)<i∧i<2 ^ 64)∨(-(2 ^ 64)<j∧j<2 ^ 64)
theorem CMul.ok {i j:Int}(h:CMul i j):IntMulOk i j:=by
 rcases h with⟨h1,h2⟩|⟨h1,h2⟩
 ·exact .of_left (intBits_le_64 h1 h2)
 ·exact .of_right (intBits_le_64 h1 h2)
theorem uz:OpR X (binaryOp .Add) (rI0 fun i j=>.int (i+j)):=opI0 fun _ _ _ _ _ _ _ q=>add_int q
theorem zap:OpR X (binaryOp .Mod) (rI (fun _ j=>0<j) fun i j=>.int (i % j)):=opI fun i j _ _ _ _ _ hc q=>by
 have h1:(0:Int)<j:=hc
 exact mod_int' (by omega) (by rw[Int.fmod_eq_emod_of_nonneg i (by omega)];exact q)
theorem unI {f:Value→Sem Value}{g:Int→Int}
  (rule:∀(i:Int) (t:Tok) (s:Shared) (Q:Value→Shared→Prop) (E:Value→Shared→Prop),Q (.int (g i) s.toks) {s with toks:=s.toks+1}→wpAny (model X.prog X.w) X.A (f (.int i t)) Q E s) :
  UnR X f (rU fun i=>.int (g i)):=by
 intro pins s σ H x v Q I rx h
 obtain⟨i,rfl,q⟩:=h
 obtain⟨t,rfl⟩:=rx
 exact rule i t s _ _ ⟨.int (g i),H,I.tok _,⟨_,rfl⟩,q⟩
theorem un_neg:UnR X (unaryOp .USub) (rU fun i=>.int (-i)):=unI fun _ _ _ _ _ q=>neg_int q
end
section
variable {X:Cx}{a b c:Expr}{ta tb tc:TE}{pos:Pos}
theorem fin_bl {pins:List (Addr×Obj)}{σ:St}{H:Hp}{s:Shared}{Q:VK}{k k':Bool}(I:Inv X pins σ H s)(q:Q (.bl k) H)(e:k=k'):EP X pins σ Q (.bool k') s:=by
 subst e
 exact⟨.bl k,H,I,rfl,q⟩
theorem op_lt:OpR X (compareOp .Lt) (rI0 fun i j=>.bl (decide (i<j))):=opB0 fun _ _ _ _ _ _ _ q=>lt_int q
theorem op_le:OpR X (compareOp .LtE) (rI0 fun i j=>.bl (decide (i≤j))):=opB0 fun _ _ _ _ _ _ _ q=>le_int q
theorem op_lt_str:OpR X (compareOp .Lt) (fun x y H Q=>∃i j,x=.str i∧y=.str j∧Q (.bl (decide (i.cps.toList<j.cps.toList))) H):=by
 intro pins s σ H x y v u Q I rx ry h
 obtain⟨i,j,rfl,rfl,q⟩:=h
 obtain⟨t,rfl⟩:=rx
 obtain⟨t',rfl⟩:=ry
 exact lt_str (fin_bl I q rfl)
theorem xY (b:Expr){op:CmpOp}(h:op≠.In:=by decide)(h2:op≠.NotIn:=by decide):behindInMarks op b=false:=by
 have e1:(op == CmpOp.In)=false:=by cases op <;>first|rfl|exact absurd rfl h
 have e2:(op == CmpOp.NotIn)=false:=by cases op <;>first|rfl|exact absurd rfl h2
 cases b <;>simp[behindInMarks,e1,e2]
theorem pe_cmpR {op:CmpOp}{r:R2}(ho:OpR X (compareOp op) r)(ha:PE X a ta)(hb:PE X b tb)(hm:behindInMarks op b=false):PE X (.Compare a [op] [b] pos) (tOp r ta tb):=by
 intro pins s σ H Q I h
 exact wpAny_Compare1 (binT ha hb I h fun v u s2 x y H2 I2 rx ry q=>ho pins s2 σ H2 x y v u Q I2 rx ry q) hm
def tTest (t:TE):TT:=fun σ H Q=>t σ H fun x H'=>∃k,x=.bl k∧Q k H'
theorem pt_cmpR {op:CmpOp}{r:R2}(ho:OpR X (compareOp op) r)(ha:PE X a ta)(hb:PE X b tb)(hm:behindInMarks op b=false):PT X (.Compare a [op] [b] pos) (tTest (tOp r ta tb)):=by
 intro pins s σ H Q I h
 refine wpAny_isTrue_Compare1 (thn (ha pins s σ H _ I h) fun v s1 ⟨x,H1,I1,r1,q1⟩=>thn (hb pins s1 σ H1 _ I1 q1) fun u s2 ⟨y,H2,I2,r2,q2⟩ =>
  thn (ho pins s2 σ H2 x y v u _ I2 r1 r2 q2) fun c s3 ⟨z,H3,I3,r3,k,e,q3⟩=>?_) hm
 subst e
 cases r3
 exact wpAny_truthy_bool ⟨H3,I3,q3⟩
def tChain (r r':R2)(ta tb tc:TE):TE:=fun σ H Q=>ta σ H fun x H1=>tb σ H1 fun y H2=>r x y H2 fun z H3=>∃k,z=.bl k ∧
 (if k=true then tc σ H3 fun w' H4=>r' y w' H4 Q else Q (.bl false) H3)
theorem pe_chain {op op':CmpOp}{r r':R2}(ho:OpR X (compareOp op) r)(ho':OpR X (compareOp op') r')(ha:PE X a ta)(hb:PE X b tb)(hc:PE X c tc)
  (hm:lastMarks [op,op'] [b,c]=false:=by with_unfolding_all rfl):PE X (.Compare a [op,op'] [b,c] pos) (tChain r r' ta tb tc):=by
 intro pins s σ H Q I h
 refine Compare_chain (thn (ha pins s σ H _ I h) fun v s1 ⟨x,H1,I1,r1,q1⟩=>chain_link (thn (hb pins s1 σ H1 _ I1 q1) fun u s2 ⟨y,H2,I2,r2,q2⟩ =>
  thn (ho pins s2 σ H2 x y v u _ I2 r1 r2 q2) fun d s3 ⟨z,H3,I3,r3,k,e,q3⟩=>?_)) hm
 subst e
 cases r3
 refine wpAny_truthy_bool ?_
 cases k with
 | false=>exact ite_ff ⟨.bl false,H3,I3,rfl,q3⟩
 | true=>exact ite_tt (chain_last (thn (hc pins s3 σ H3 _ I3 q3) fun w' s4 ⟨z',H4,I4,r4,q4⟩=>ho' pins s4 σ H4 y z' u w' Q I4 r2 r4 q4))
theorem pt_chain {op op':CmpOp}{r r':R2}(ho:OpR X (compareOp op) r)(ho':OpR X (compareOp op') r')(ha:PE X a ta)(hb:PE X b tb)(hc:PE X c tc)
  (hm:lastMarks [op,op'] [b,c]=false:=by with_unfolding_all rfl):PT X (.Compare a [op,op'] [b,c] pos) (tTest (tChain r r' ta tb tc)):=by
 intro pins s σ H Q I h
 refine isTrue_chain (thn (ha pins s σ H _ I h) fun v s1 ⟨x,H1,I1,r1,q1⟩=>test_link (thn (hb pins s1 σ H1 _ I1 q1) fun u s2 ⟨y,H2,I2,r2,q2⟩ =>
  thn (ho pins s2 σ H2 x y v u _ I2 r1 r2 q2) fun d s3 ⟨z,H3,I3,r3,k,e,q3⟩=>?_)) hm
 subst e
 cases r3
 refine wpAny_truthy_bool ?_
 cases k with
 | false =>
  obtain⟨k',e',q'⟩:=q3
  cases e'
  exact ite_ff ⟨H3,I3,q'⟩
 | true =>
  refine ite_tt (test_last (thn (hc pins s3 σ H3 _ I3 q3) fun w' s4 ⟨z',H4,I4,r4,q4⟩=>thn (ho' pins s4 σ H4 y z' u w' _ I4 r2 r4 q4) fun d' s5 hq18=>?_))
  obtain⟨z2,H5,I5,r5,k2,e2,q5⟩:=hq18
  subst e2
  cases r5
  exact wpAny_truthy_bool ⟨H5,I5,q5⟩
theorem line63:(sizeLine:Nat)<2 ^ 63:=by rw[sizeLine_eq];decide
theorem op_add_str:OpR X (binaryOp .Add) (fun x y H Q=>∃i j,x=.str i∧y=.str j∧i.length+j.length≤sizeLine∧Q (.str (i++j)) H):=by
 intro pins s σ H x y v u Q I rx ry h
 obtain⟨i,j,rfl,rfl,hz,q⟩:=h
 obtain⟨t,rfl⟩:=rx
 obtain⟨t',rfl⟩:=ry
 exact add_str (fun t' tk=>⟨.str (i++j),H,I.tok _,⟨_,rfl⟩,q⟩) hz
theorem vals1 {x:V}{us:List Value}(r:Vals [x] us):∃u,us=[u]∧RelV x u:=by
 cases r with
 | cons r1 r2=>cases r2;exact⟨_,rfl,r1⟩
theorem vals2 {x y:V}{us:List Value}(r:Vals [x,y] us):∃u w',us=[u,w']∧RelV x u∧RelV y w':=by
 cases r with
 | cons r1 r2 =>
  cases r2 with
  | cons r3 r4=>cases r4;exact⟨_,_,rfl,r1,r3⟩
theorem call_max2 (hc:X.calm=true):jj X (.builtin "max") (fun xs H Q=>∃i j,xs=[.int i,.int j]∧Q (.int (if j > i then j else i)) H):=by
 intro pins s σ H xs us Q I r h
 obtain⟨i,j,rfl,q⟩:=h
 obtain⟨u,w',rfl,⟨t,rfl⟩,⟨t',rfl⟩⟩:=vals2 r
 refine max_two_ints (I.ok.hd hc) fun h' tk k=>⟨_,H,I.kept k,?_,q⟩
 by_cases hj:j > i
 ·rw[if_pos hj,if_pos hj];exact⟨_,rfl⟩
 ·rw[if_neg hj,if_neg hj];exact⟨_,rfl⟩
theorem zda:jj X (.type "str") (fun xs H Q=>∃i,xs=[.int i]∧i.natAbs.log2<1920∧Q (.str (toString i)) H):=by
 intro pins s σ H xs us Q I r h
 obtain⟨i,rfl,hz,q⟩:=h
 obtain⟨u,rfl,t,rfl⟩:=vals1 r
 exact PySem.P.str_of_int hz ⟨.str _,H,I.tok _,⟨_,rfl⟩,q⟩
def LenV (K:PySem.W.Frag)(x:V)(H:Hp)(n:Nat):Prop :=
 match x with
 | .str y=>y.length≤sizeLine∧n=y.length
 | .byt y=>y.size≤sizeLine∧n=y.size
 | .ref p=>(∃xs,SqL K H p xs∧n=xs.length)∨∃xs,SqT K H p xs∧n=xs.length
 | _=>False
theorem yW:jj X (.builtin "len") (fun xs H Q=>∃x n,xs=[x]∧LenV X.K x H n∧Q (.int n) H):=by
 intro pins s σ H xs us Q I r h
 obtain⟨x,n,rfl,e,q⟩:=h
 obtain⟨u,rfl,rx⟩:=vals1 r
 have hl:=line63
 have hs:sizeLine=16777216:=sizeLine_eq
 cases x with
 | str y =>
  obtain⟨t,rfl⟩:=rx
  obtain⟨hy,e'⟩:y.length≤sizeLine∧n=y.length:=e
  subst e'
  exact len_str (by omega) ⟨.int _,H,I.tok _,⟨_,rfl⟩,q⟩
 | byt y =>
  obtain⟨t,rfl⟩:=rx
  obtain⟨hy,e'⟩:y.size≤sizeLine∧n=y.size:=e
  subst e'
  exact PySem.W.len_bytes (by omega) ⟨.int _,H,I.tok _,⟨_,rfl⟩,q⟩
 | ref p =>
  cases rx
  have e':(∃xs,SqL X.K H p xs∧n=xs.length)∨∃xs,SqT X.K H p xs∧n=xs.length:=e
  rcases e' with⟨xs,hx,e'⟩|⟨xs,hx,e'⟩
  ·subst e'
   obtain⟨its,r',pl,hz⟩:=I.list hx
   have hlen:=r'.length
   exact Calls.call_len_list pl.isList (by simp only[List.size_toArray];omega) ⟨.int xs.length,H,I.tok _,⟨_,by simp only[List.size_toArray];rw[hlen]⟩,q⟩
  ·subst e'
   obtain⟨its,r',pl,hz⟩:=I.tuple hx
   have hlen:=r'.length
   exact len_tuple pl (by simp only[List.size_toArray];omega) ⟨.int xs.length,H,I.tok _,⟨_,by simp only[List.size_toArray];rw[hlen]⟩,q⟩
 | _=>exact(show False from e).elim
end
end L2
namespace L2
open PySem PySem.Spec PyProof.Rows
structure ObjM (h:Heap)(x dx C:Addr)(mA:Str→Option Value):Prop where
 obj:h.get? x=some (PySem.W.instObj C dx)
 ns:h.Ns1 dx mA
 ne:dx≠x
theorem lookIn_ns {h:Heap}{dx:Addr}{mA:Str→Option Value}(n:h.Ns1 dx mA):∃od,h.get? dx=some od∧∀name,PySem.W.lookIn name od=some (mA name):=by
 obtain⟨o,es,ep,ho,hd,hk,_,hm⟩:=n
 refine⟨o,ho,fun name=>?_⟩
 have e:=hm name
 unfold nsFind findBy at e
 rw[← Array.find?_toList] at e
 unfold PySem.W.lookIn
 rw[hd]
 dsimp only
 split
 ·rename_i y q
  rw[q] at e
  exact congrArg some e
 ·rename_i q
  rw[q] at e
  have a:es.toList.any (·.refKey)=false:=by
   rw[List.any_eq_false]
   intro y hy
   obtain⟨z,t,hkey⟩:=hk y (Array.mem_toList_iff.mp hy)
   simp[DictEntry.refKey,hkey]
  have a':¬es.toList.any (·.refKey)=true:=by rw[a];exact Bool.false_ne_true
  rw[if_neg a']
  exact congrArg some e
theorem ObjM.look {h:Heap}{x dx C:Addr}{mA:Str→Option Value}(I:ObjM h x dx C mA):∃od,PySem.W.InstAt h x (PySem.W.instObj C dx) C (some od)∧∀name,PySem.W.lookIn name od=some (mA name) :=
 let ⟨od,ho,hl⟩:=lookIn_ns I.ns
 ⟨od,⟨I.obj,rfl,rfl,ho⟩,hl⟩
section
variable {prog:Program}{w:World}{A:Around}{E:Value→Shared→Prop}{s:Shared}{K:PySem.W.Frag}{x dx C f:Addr}{mA:Str→Option Value}{name:Str}{v:Value}
theorem get_map {expr:Bool}{Q:Value→Shared→Prop}(X:K.In s.heap)(I:ObjM s.heap x dx C mA)(hg:PySem.W.plainGet K C name=true)(hh:PySem.W.hasDictIn K C=true)
  (ha:PySem.W.findIn K (.ref C) name=some none) (hv:mA name=some v) (hv':PySem.W.handedIn v=true) (h:Q v {s with toks:=s.toks+1}) :
  wpAny (model prog w) A (getAttr (.ref x) name expr) Q E s:=by
 obtain⟨od,J,hl⟩:=I.look
 exact PySem.W.get_value X J (PySem.W.plainGet_of hg).1 (PySem.W.findObj_own hh ha rfl (by rw[hl,hv])) hv' h
theorem get_meth {pl:Sem Bool}{Q:Value×List Value→Shared→Prop}(X:K.In s.heap)(I:ObjM s.heap x dx C mA)(hg:PySem.W.plainGet K C name=true)
  (hf:PySem.W.findIn K (.ref C) name=some (some (.ref f))) (ht:PySem.W.isFn K (.ref f)=true) (hv:mA name=none) (h:Q (.ref f,[.ref x]) s) :
  wpAny (model prog w) A (getMethod (.ref x) name pl) Q E s:=by
 obtain⟨od,J,hl⟩:=I.look
 exact PySem.W.method_fn X J (PySem.W.plainGet_of hg).1 (PySem.W.plainGet_of hg).2 hf (beq_iff_eq.mp ht) (by show(PySem.W.lookIn name od).map (·.isSome)=some false;rw[hl,hv];rfl) h
theorem set_map {ns:List Str}{Q:Unit→Shared→Prop}(X:K.In s.heap)(I:ObjM s.heap x dx C mA)
  (hs:PySem.W.findIn K (.ref C) "__setattr__" = some (some (.builtin "object.__setattr__"))) (hp:PySem.W.plainOver K C=true) (ht:PySem.W.takerIn K C name=some none) (hh:PySem.W.hasDictIn K C=true)
  (hw:PySem.Within mA ns) (hsz:ns.length≤sizeLine)
  (h:∀h',ObjM h' x dx C (fun y=>if y=name then some v else mA y)→Heap.SameBut dx s.heap h'→Q () {s with heap:=h',toks:=s.toks+2}) :
  wpAny (model prog w) A (setAttr (.ref x) name v) Q E s:=by
 obtain⟨od,J,hl⟩:=I.look
 refine PySem.W.set_plain X J hs (PySem.W.osa_open (s:={s with toks:=s.toks+1}) (r:=none) X J hp ht fun b=>?_)
 obtain⟨cd,hc,hd'⟩:=PySem.W.any_some hh
 have hx:s.heap.get? x=some ⟨.ref C,some dx,.plain,#[]⟩:=I.obj
 refine wpAny_bind (wpAny_pure (wpAny_bind (wpAny_bind (wpAny_loadPart hx (wpAny_bind (PySem.W.Looks.here (s:={s with toks:=s.toks+1}) (PySem.W.looks_clsIn X hc) ?_))))))
 rw[hd']
 refine wpAny_pure (a:=some dx) (wpAny_bind (wpAny_pure (wpAny_bind ?_)))
 refine wpAny_nsSet1 (s:={s with toks:=s.toks+1}) I.ns fun h' hn2 hs2=>?_
 obtain⟨oD,esD,epD,hoD,hdD,hcD⟩:=hn2.count (PySem.Within.cons name v hw)
 refine wpAny_bind (wpAny_lookBehind hoD (by rw[hdD];exact pastItsLine_dict (Nat.le_trans hcD (by rw[List.length_cons];omega))) ?_)
 exact wpAny_pure (h _ ⟨(hs2.2 _ (Ne.symm I.ne)).trans I.obj,hn2,I.ne⟩ hs2)
theorem make_map {R:Result→Shared→Prop}{vs:List Value}{kw:List (Str×Value)}(X:K.In s.heap)(hm:PySem.W.makesIn K C=true)
  (hi:PySem.W.findIn K (.ref C) "__init__" = some (some (.ref f))) (hf:PySem.W.typeIn K (.ref f)=some (.type "function"))
  (h:codeAny (model prog w) (A.under (.builtin "type.__call__" ⟨.ref C::vs,kw⟩)) (.call (.ref f) ⟨.ref (s.heap.objs.size+1)::vs,kw⟩) (PySem.W.InitBack (s.heap.objs.size+1) R)
   {s with heap:=(s.heap.push PySem.W.emptyDict).push (PySem.W.instObj C s.heap.objs.size)}) :
  codeAny (model prog w) A (.call (.ref C) ⟨vs,kw⟩) R s:=by
 obtain⟨hh,g,d,t,os⟩:=s
 exact PySem.W.make_core (PySem.W.makes_of X hm) (PySem.W.looks_findIn X hi) (fun self=>PySem.W.bind_fn X self hf) (.inl rfl) h
end
def zbT (f:Str)(v:V):List (Str×V)→List (Str×V)
 | []=>[(f,v)]
 | (g,x)::r=>if g=f then(g,v)::r else(g,x)::zbT f v r
theorem zaV (f g:Str)(v:V):∀fs:List (Str×V),(zbT f v fs).lookup g=if g=f then some v else fs.lookup g
 | []=>by
  show List.lookup g [(f,v)]=_
  by_cases h:g=f
  ·have hb:(g == f)=true:=beq_iff_eq.mpr h
   simp only[List.lookup,hb,if_pos h]
  ·have hb:(g == f)=false:=beq_eq_false_iff_ne.mpr h
   simp only[List.lookup,hb,if_neg h]
 | (k,x)::r=>by
  have ih:=zaV f g v r
  rw[show zbT f v ((k,x)::r)=(if k=f then(k,v)::r else(k,x)::zbT f v r) from rfl]
  by_cases hk:k=f
  ·rw [if_pos hk]
   by_cases h:g=k
   ·have hb:(g == k)=true:=beq_iff_eq.mpr h
    simp only[List.lookup,hb,if_pos (h.trans hk)]
   ·have hb:(g == k)=false:=beq_eq_false_iff_ne.mpr h
    simp only[List.lookup,hb,if_neg (fun e:g=f=>h (e.trans hk.symm))]
  ·rw [if_neg hk]
   by_cases h:g=k
   ·have hb:(g == k)=true:=beq_iff_eq.mpr h
    simp only[List.lookup,hb,if_neg (fun e:g=f=>hk (h.symm.trans e))]
   ·have hb:(g == k)=false:=beq_eq_false_iff_ne.mpr h
    simp only[List.lookup,hb]
    exact ih
theorem za2 (f:Str)(v:V):∀fs:List (Str×V),f∈(zbT f v fs).map (·.1)∧∀g,g∈fs.map (·.1)→g∈(zbT f v fs).map (·.1)
 | []=>⟨by simp[zbT],fun g h=>by simp at h⟩
 | (k,x)::r=>by
  obtain⟨i1,i2⟩:=za2 f v r
  rw[show zbT f v ((k,x)::r)=(if k=f then(k,v)::r else(k,x)::zbT f v r) from rfl]
  by_cases hk:k=f
  ·rw[if_pos hk]
   subst hk
   exact⟨by simp,fun g h=>by simpa using h⟩
  ·rw [if_neg hk]
   refine⟨?_,fun g h=>?_⟩
   ·rw[List.map_cons]
    exact List.mem_cons_of_mem _ i1
   ·rw[List.map_cons] at h ⊢
    rcases List.mem_cons.mp h with e|e
    ·exact List.mem_cons.mpr (.inl e)
    ·exact List.mem_cons_of_mem _ (i2 g e)
theorem zbd (f:Str)(v:V):∀fs:List (Str×V),(zbT f v fs).length≤fs.length+1
 | []=>by simp[zbT]
 | (k,x)::r=>by
  have ih:=zbd f v r
  rw[show zbT f v ((k,x)::r)=(if k=f then(k,v)::r else(k,x)::zbT f v r) from rfl]
  by_cases hk:k=f
  ·rw[if_pos hk,List.length_cons,List.length_cons];omega
  ·rw[if_neg hk,List.length_cons,List.length_cons];omega
theorem RelO.some_of {v:V}{o:Option Value}(r:RelO (some v) o):∃u,o=some u∧RelV v u:=by
 cases o with
 | none=>exact(show False from r).elim
 | some u=>exact⟨u,rfl,r⟩
theorem RelO.none_of {o:Option Value}(r:RelO none o):o=none:=by
 cases o with
 | none=>rfl
 | some u=>exact(show False from r).elim
theorem handed_of {v:V}{u:Value}(r:RelV v u):PySem.W.handedIn u=true:=by
 cases v with
 | non=>cases (show u=Value.none from r);rfl
 | bl b=>cases (show u=Value.bool b from r);rfl
 | int i=>obtain⟨t,e⟩:=(show ∃t,u=Value.int i t from r);cases e;rfl
 | str x=>obtain⟨t,e⟩:=(show ∃t,u=Value.str x t from r);cases e;rfl
 | byt b=>obtain⟨t,e⟩:=(show ∃t,u=Value.bytes b t from r);cases e;rfl
 | flt b=>obtain⟨t,e⟩:=(show ∃t,u=Value.float b t from r);cases e;rfl
 | ref a=>cases (show u=Value.ref a from r);rfl
 | ty n=>cases (show u=Value.type n from r);rfl
section
variable {P:Program}{w:World}{H H':Hp}{h h':Heap}{a C dx:Addr}{fs fs':List (Str×V)}
theorem zee (hok:HOk P w H h)(e:H a=some (.ins C dx fs)):∃mA,ObjM h a dx C mA∧(∀f,RelO (fs.lookup f) (mA f))∧PySem.Within mA (fs.map (·.1))∧fs.length≤1000∧H dx=some (.own a):=by
 obtain⟨d,z,ne,ob,mA,n,r,q⟩:=(show ObjOk P w H h a (.ins C dx fs) from hok a _ e)
 exact⟨mA,⟨ob,n,ne⟩,r,q,z,d⟩
end
structure Cls (K:PySem.W.Frag)(C:Addr):Prop where
 pg:PySem.W.plainGet K C Str.empty=true
 hd:PySem.W.hasDictIn K C=true
 po:PySem.W.plainOver K C=true
 sa:PySem.W.findIn K (.ref C) "__setattr__" = some (some (.builtin "object.__setattr__"))
theorem Cls.get {K:PySem.W.Frag}{C:Addr}(c:Cls K C)(f:Str):PySem.W.plainGet K C f=true:=c.pg
def NoAttr (K:PySem.W.Frag)(C:Addr)(f:Str):Prop:=PySem.W.findIn K (.ref C) f=some none
theorem NoAttr.taker {K:PySem.W.Frag}{C:Addr}{f:Str}(n:NoAttr K C f):PySem.W.takerIn K C f=some none:=by
 unfold PySem.W.takerIn
 rw[show PySem.W.findIn K (.ref C) f=some none from n]
 rfl
structure Meth (K:PySem.W.Frag)(C:Addr)(m:Str)(f:Addr):Prop where
 at_:PySem.W.findIn K (.ref C) m=some (some (.ref f))
 fn:PySem.W.isFn K (.ref f)=true
 kp:PySem.W.keepIn K (.ref f)=true
section
variable {X:Cx}{pins:List (Addr×Obj)}{σ:St}{H:Hp}{s:Shared}{a C dx:Addr}{fs:List (Str×V)}{f:Str}{v:V}{A:Around}{E:Value→Shared→Prop}
theorem getattr_ok {b:Bool}{Q:Value→Shared→Prop}(I:Inv X pins σ H s)(e:H a=some (.ins C dx fs))(c:Cls X.K C)(n:NoAttr X.K C f)(l:fs.lookup f=some v)
  (h:∀u s',Inv X pins σ H s'→RelV v u→Q u s'):wpAny (model X.prog X.w) A (getAttr (.ref a) f b) Q E s:=by
 obtain⟨mA,O,r,_,_,_⟩:=zee I.hok e
 obtain⟨u,hu,ru⟩:=RelO.some_of (v:=v) (o:=mA f) (by rw[← l];exact r f)
 exact get_map I.kIn O (c.get f) c.hd n hu (handed_of ru) (h u _ (I.tok _) ru)
theorem zb6 {m:Str}{g:Addr}{pl:Sem Bool}{Q:Value×List Value→Shared→Prop}(I:Inv X pins σ H s)(e:H a=some (.ins C dx fs))(c:Cls X.K C)(k:Meth X.K C m g)(l:fs.lookup m=none)
  (h:Q (.ref g,[.ref a]) s):wpAny (model X.prog X.w) A (getMethod (.ref a) m pl) Q E s:=by
 obtain⟨mA,O,r,_,_,_⟩:=zee I.hok e
 have hn:mA m=none:=RelO.none_of (by rw[← l];exact r m)
 exact get_meth I.kIn O (c.get m) k.at_ k.fn hn h
theorem setattr_ok {y:V}{u:Value}{Q:Unit→Shared→Prop}(I:Inv X pins σ H s)(e:H a=some (.ins C dx fs))(c:Cls X.K C)(n:NoAttr X.K C f)(hl:fs.length<1000)(ry:RelV y u)
  (h:∀s',Inv X pins σ (upd H a (.ins C dx (zbT f y fs))) s'→Q () s'):wpAny (model X.prog X.w) A (setAttr (.ref a) f u) Q E s:=by
 obtain⟨mA,O,r,wi,_,ho⟩:=zee I.hok e
 have hz:(fs.map (·.1)).length≤sizeLine:=by rw[List.length_map,sizeLine_eq];omega
 refine set_map I.kIn O c.sa c.po n.taker c.hd wi hz fun h' O' sb=>h _ ?_
 have hd:∃o,h'.get? dx=some o:=let ⟨o,_,_,e',_⟩:=O'.ns;⟨o,e'⟩
 refine I.write (x:=a) (e:=dx) (by rw[e];exact True.intro) (.inr ho) (fun b q hb z=>(sb.2 b hb).trans z) hd ?_
 refine⟨by rw[zJ O.ne];exact ho,?_,O.ne,O'.obj,_,O'.ns,fun g=>?_,fun g hg=>?_⟩
 ·have:=zbd f y fs;omega
 ·show RelO ((zbT f y fs).lookup g) (if g=f then some u else mA g)
  rw[zaV]
  by_cases q:g=f
  ·rw[if_pos q,if_pos q];exact ry
  ·rw[if_neg q,if_neg q];exact r g
 ·by_cases q:g=f
  ·rw[q];exact(za2 f y fs).1
  ·refine(za2 f y fs).2 g (wi g fun z=>hg ?_)
   show(if g=f then some u else mA g)=none
   rw[if_neg q];exact z
theorem Inv.made (I:Inv X pins σ H s):Inv X pins σ (upd (upd H s.heap.objs.size (.own (s.heap.objs.size+1))) (s.heap.objs.size+1) (.ins C s.heap.objs.size []))
  {s with heap:=(s.heap.push PySem.W.emptyDict).push (PySem.W.instObj C s.heap.objs.size)}:=by
 have e1:(s.heap.push PySem.W.emptyDict).get? s.heap.objs.size=some PySem.W.emptyDict:=Heap.get?_push_size s.heap rfl
 have e2:((s.heap.push PySem.W.emptyDict).push (PySem.W.instObj C s.heap.objs.size)).get? (s.heap.objs.size+1)=some (PySem.W.instObj C s.heap.objs.size):=by
  have:=Heap.get?_push_size (s.heap.push PySem.W.emptyDict) (o:=PySem.W.instObj C s.heap.objs.size) rfl
  rwa [Heap.size_push] at this
 have e3:(s.heap.push PySem.W.emptyDict).Ns s.heap.objs.size (fun _=>none):=⟨PySem.W.emptyDict,#[],_,e1,rfl,(fun e he=>absurd he (by simp)),fun _=>rfl⟩
 have I1:=I.laid (a:=s.heap.objs.size) (o:=.own (s.heap.objs.size+1)) (h':=s.heap.push PySem.W.emptyDict) (t':=s.toks) (fun b u q=>Heap.get?_push_of_some _ q) (Nat.le_refl _) ⟨_,e1⟩
 refine I1.laid (a:=s.heap.objs.size+1) (o:=.ins C s.heap.objs.size []) (t':=s.toks) (fun b u q=>Heap.get?_push_of_some _ q) (Nat.le_of_eq (Heap.size_push _ _)) ?_
 have ne:s.heap.objs.size≠s.heap.objs.size+1:=Nat.ne_of_lt (Nat.lt_succ_self _)
 refine⟨by rw[zJ ne,zM],Nat.zero_le _,ne,e2,fun _=>none,(Heap.Ns1.of_empty e3).at fun o q=>Heap.get?_push_of_some _ q,fun _=>True.intro,fun y hy=>absurd rfl hy⟩
theorem attr_of {prog:Program}{w:World}{env:Env}{e:Expr}{f:Str}{pos:Pos}{s:Shared}{Q:Value→Shared→Prop}(hb:attributeBase e f env (eval e env)=eval e env)
  (h:wpAny (model prog w) A (eval e env) (fun o s₁=>wpAny (model prog w) A (getAttr o f true) Q E s₁) E s):wpAny (model prog w) A (eval (.Attribute e f pos) env) Q E s :=
 Attribute_any_ h (by rw[arm_eval_Attribute,hb])
end
def tFld (K:PySem.W.Frag)(ta:TE)(f:Str):TE:=fun σ H Q=>ta σ H fun x H1=>∃a C dx fs v,x=.ref a∧H1 a=some (.ins C dx fs)∧Cls K C∧NoAttr K C f∧fs.lookup f=some v∧Q v H1
def sFld (K:PySem.W.Frag)(ta tv:TE)(f:Str):TS:=fun D σ H=>tv σ H fun y H1=>ta σ H1 fun x H2=>∃a C dx fs,x=.ref a∧H2 a=some (.ins C dx fs)∧Cls K C∧NoAttr K C f∧fs.length<1000 ∧
 D.nx σ (upd H2 a (.ins C dx (zbT f y fs)))
section
variable {X:Cx}{o e value:Expr}{f:Str}{pos pos' tpos:Pos}{ta tv:TE}
theorem pe_fld (he:PE X e ta)(hb:attributeBase e f X.env (eval e X.env)=eval e X.env):PE X (.Attribute e f pos) (tFld X.K ta f):=by
 intro pins s σ H Q I h
 refine attr_of hb (thn (he pins s σ H _ I h) fun u s1 hq19=>?_)
 obtain⟨x,H1,I1,rx,a,C,dx,fs,v,ex,ea,c,n,l,q⟩:=hq19
 subst ex
 obtain rfl:u=Value.ref a:=rx
 exact getattr_ok I1 ea c n l fun u' s2 I2 ru=>⟨v,H1,I2,ru,q⟩
theorem ps_fld (ha:PE X o ta)(hv:PE X value tv)(hs:swapsWith value (some (.Attribute o f pos')) pos.line X.env=pure false):PS X (.Assign [.Attribute o f pos'] value pos) (sFld X.K ta tv f):=by
 intro pins s σ H D I h
 refine plainObj_wpAny_Assign_Attribute (thn (hv pins s σ H _ I h) fun u s1 ⟨y,H1,I1,ry,q⟩=>thn (ha pins s1 σ H1 _ I1 q) fun ov s2 ⟨x,H2,I2,rx,a,C,dx,fs,ex,ea,c,n,l,q2⟩=>?_) hs
 subst ex
 obtain rfl:ov=Value.ref a:=rx
 exact setattr_ok I2 ea c n l ry fun s3 I3=>⟨σ,_,I3,q2⟩
end
end L2
namespace L2
open PySem PySem.Spec PyProof.Rows
structure Room (k:Nat)(A:Around):Prop where
 hd:A.handled=none
 dp:A.depth+3*k+5<recursionLimit
 un:A.units+16*k+200<cLine
theorem Room.mono {j k:Nat}{A:Around}(r:Room k A)(h:j≤k):Room j A:=⟨r.hd,by have:=r.dp;omega,by have:=r.un;omega⟩
theorem Room.deeper {k:Nat}{A:Around}(r:Room (k+1) A)(env:Env):Room k (A.deeper env) :=
 ⟨r.hd,by have:=r.dp;show A.depth+1+3*k+5<_;omega,by have:=r.un;show A.units+3+16*k+200<_;omega⟩
theorem Room.in1 {k:Nat}{A:Around}(r:Room (k+1) A):Room k A.in1 :=
 ⟨r.hd,by have:=r.dp;show A.depth+3*k+5<_;omega,by have:=r.un;show A.units+1+16*k+200<_;omega⟩
theorem make_depth {A:Around}{C:Addr}{us:List Value}{kw:List (Str×Value)}:(A.under (.builtin "type.__call__" ⟨.ref C::us,kw⟩)).depth=A.depth+1:=by
 first|rfl|simp[Around.under,Code.weight,Code.isCreation,Code.isGuard,Code.isCaller,Code.frames,Code.isFrame,guardIds]
theorem make_units {A:Around}{C:Addr}{us:List Value}{kw:List (Str×Value)}:(A.under (.builtin "type.__call__" ⟨.ref C::us,kw⟩)).units=A.units+1:=by
 first|rfl|simp[Around.under,Code.cUnits,Code.frames,Code.isFrame]
theorem Room.make {k:Nat}{A:Around}(r:Room (k+1) A)(C:Addr)(us:List Value)(kw:List (Str×Value)):Room k (A.under (.builtin "type.__call__" ⟨.ref C::us,kw⟩)) :=
 ⟨r.hd,by have:=r.dp;rw[make_depth];omega,by have:=r.un;rw[make_units];omega⟩
theorem Room.depth {k:Nat}{A:Around}(r:Room k A):A.depth<recursionLimit:=by have:=r.dp;omega
theorem Room.units {k:Nat}{A:Around}(r:Room k A):A.units+64<cLine:=by have:=r.un;omega
def tNil:TA:=fun _ H Q=>Q [] H
def zav (ta:TE)(tr:TA):TA:=fun σ H Q=>ta σ H fun x H1=>tr σ H1 fun xs H2=>Q (x::xs) H2
section
variable {X:Cx}{e:Expr}{es:List Expr}{te:TE}{t:TA}{pos:Pos}
theorem uD:PA X [] tNil:=fun _ _ _ _ H Q I h=>Calls.spliced_nil ⟨[],H,I,.nil,h⟩
theorem xK (ha:PE X e te)(hr:PA X es t)(hs:starEach (e::es) X.env=(false,eval e X.env)::starEach es X.env:=by rfl):PA X (e::es) (zav te t):=by
 intro pos pins s σ H Q I h
 rw[hs]
 show wpAny _ _ (spliced ((false,eval e X.env)::backTo pos (starEach es X.env))) _ _ s
 refine Calls.spliced_cons (thn (ha pins s σ H _ I h) fun u s1 hq20=>?_)
 obtain⟨x,H1,I1,r1,q1⟩:=hq20
 exact thn (hr pos pins s1 σ H1 _ I1 q1) fun us s2 ⟨xs,H2,I2,r2,q2⟩=>⟨x::xs,H2,I2,.cons r1 r2,q2⟩
def tTup (t:TA):TE:=fun σ H Q=>t σ H fun xs H1=>xs.length≤sizeLine∧∀p,H1 p=none→Q (.ref p) (upd H1 p (.tup xs))
def tLst (t:TA):TE:=fun σ H Q=>t σ H fun xs H1=>xs.length≤sizeLine∧∀p,H1 p=none→Q (.ref p) (upd H1 p (.lst xs))
theorem pe_tup {x1}(h:PA X es t):PE X (.Tuple es x1 pos) (tTup t):=by
 intro pins s σ H Q I hq
 refine wpAny_Tuple_spliced (thn (h pos pins s σ H _ I hq) fun us s1 ⟨xs,H1,I1,r,z,q⟩=>⟨by rw[← r.length];exact z,?_⟩)
 have hf:H1 s1.heap.objs.size=none:=I1.hok.fresh (Nat.le_refl _)
 refine⟨.ref s1.heap.objs.size,upd H1 s1.heap.objs.size (.tup xs),I1.laid (t':=s1.toks) (fun b u e=>Heap.get?_push_of_some _ e) (Nat.le_refl _) ?_,rfl,q _ hf⟩
 exact⟨z,us,r,TupD.new _ _⟩
theorem pe_lst (h:PA X es t):PE X (.List es pos) (tLst t):=by
 intro pins s σ H Q I hq
 refine wpAny_List_spliced (thn (h pos pins s σ H _ I hq) fun us s1 ⟨xs,H1,I1,r,z,q⟩=>⟨by rw[← r.length];exact z,?_⟩)
 have hf:H1 s1.heap.objs.size=none:=I1.hok.fresh (Nat.le_refl _)
 refine⟨.ref s1.heap.objs.size,upd H1 s1.heap.objs.size (.lst xs),I1.laid (t':=s1.toks) (fun b u e=>Heap.get?_push_of_some _ e) (Nat.le_refl _) ?_,rfl,q _ hf⟩
 exact⟨z,us,0,r,Heap.get?_push_size _ rfl⟩
end
abbrev Sp:=List V→Hp→VK→XK→Prop
abbrev CXT:=List Env→Hp→Shared→XK→Value→Shared→Prop
structure Env0 (P:Program)(w:World)(K:PySem.W.Frag)(mg:Str→Option Value)(base:Heap)(A:Around)(outer:List Env)(s:Shared)(H:Hp):Prop where
 frames:A.frames=some outer
 mod:Mod K mg base
 bs:∀b o,base.get? b=some o→s.heap.get? b=some o∧H b=none
 bsz:base.objs.size≤s.heap.objs.size
 funs:s.heap.FunFrames base outer
 frf:∀b∈frs outer,H b=none
 hok:HOk P w H s.heap
 bare:AllBare s.gens
def CE (outer:List Env)(P:Program)(w:World)(H:Hp)(s:Shared)(Q:VK)(u:Value)(s':Shared):Prop :=
 ∃v H',s'.os=s.os∧AllBare s'.gens∧Un (frs outer) [] H H' s.heap s'.heap∧HOk P w H' s'.heap∧RelV v u∧Q v H'
def CR (CX:CXT)(outer:List Env)(P:Program)(w:World)(H:Hp)(s:Shared)(Q:VK)(E:XK)(r:Result)(s':Shared):Prop :=
 match r with
 | .ok (.ret u)=>CE outer P w H s Q u s'
 | .ok _=>False
 | .error e=>CX outer H s E e s'
structure FnOk (P:Program)(w:World)(K:PySem.W.Frag)(mg:Str→Option Value)(base:Heap)(CX:CXT)(k:Nat)(f:Addr)(fd:FuncData)(ps:List Str)(sp:Sp):Prop where
 len:∀vs H Q E,sp vs H Q E→vs.length=ps.length
 run:∀(A:Around) (outer:List Env) (s:Shared) (H:Hp) (args:Args) (us:List Value) (vs:List V) (Q:VK) (E:XK),Room k A→Env0 P w K mg base A outer s H→BindsTo s fd args (ps.zip us)→Vals vs us→sp vs H Q E →
  codeAny (model P w) A (.call (.ref f) args) (CR CX outer P w H s Q E) s
theorem FnOk.mono {P:Program}{w:World}{K:PySem.W.Frag}{mg:Str→Option Value}{base:Heap}{CX:CXT}{j k:Nat}{f:Addr}{fd:FuncData}{ps:List Str}{sp:Sp}(F:FnOk P w K mg base CX j f fd ps sp)(h:j≤k) :
  FnOk P w K mg base CX k f fd ps sp:=⟨F.len,fun A outer s H args us vs Q E hr=>F.run A outer s H args us vs Q E (hr.mono h)⟩
theorem Env0.make {P:Program}{w:World}{K:PySem.W.Frag}{mg:Str→Option Value}{base:Heap}{A:Around}{outer:List Env}{s:Shared}{H:Hp}(e:Env0 P w K mg base A outer s H)(C:Addr)(us:List Value)(kw:List (Str×Value)) :
  Env0 P w K mg base (A.under (.builtin "type.__call__" ⟨.ref C::us,kw⟩)) outer s H:=⟨by first|exact e.frames|(simpa [Around.under,Code.envs,Code.isFrame,pushEnvs] using e.frames),e.mod,e.bs,e.bsz,e.funs,e.frf,e.hok,e.bare⟩
theorem Env0.in1 {P:Program}{w:World}{K:PySem.W.Frag}{mg:Str→Option Value}{base:Heap}{A:Around}{outer:List Env}{s:Shared}{H:Hp}(e:Env0 P w K mg base A outer s H) :
  Env0 P w K mg base A.in1 outer s H:=⟨e.frames,e.mod,e.bs,e.bsz,e.funs,e.frf,e.hok,e.bare⟩
section
variable {X:Cx}{pins:List (Addr×Obj)}{σ:St}{H:Hp}{s s':Shared}
theorem Inv.env0 (I:Inv X pins σ H s):Env0 X.prog X.w X.K X.mg X.base X.A X.stack s H :=
 ⟨I.ok.frames,I.ok.mod,I.bs,Nat.le_trans I.ok.bsz I.sz,I.stack,I.stkFree,I.hok,I.bare⟩
theorem Inv.after {Q:VK}{u:Value}(I:Inv X pins σ H s)(h:CE X.stack X.prog X.w H s Q u s'):EP X pins σ Q u s':=by
 obtain⟨v,H',os,bare,un,hok,r,q⟩:=h
 obtain⟨hh,g,d,t,os'⟩:=s'
 obtain rfl:os'=s.os:=os
 exact⟨v,H',I.call (h':=hh) (g':=g) (d':=d) (t':=t) (ch:=[]) un hok bare (fun b z=>absurd z (by simp)),r,q⟩
end
def tCall (sp:Sp)(dvs:List V)(E:XK)(t:TA):TE:=fun σ H Q=>t σ H fun vs H1=>sp (vs++dvs) H1 Q E
def tMeth (C:Addr)(m:Str)(sp:Sp)(dvs:List V)(E:XK)(ta:TE)(t:TA):TE:=fun σ H Q=>ta σ H fun x H1=>∃a dx fs,x=.ref a∧H1 a=some (.ins C dx fs)∧fs.lookup m=none ∧
 t σ H1 fun vs H2=>sp (x::(vs++dvs)) H2 Q E
def tMake (C:Addr)(sp:Sp)(dvs:List V)(E:XK)(t:TA):TE:=fun σ H Q=>t σ H fun vs H1=>∀x dx,H1 x=none→H1 dx=none→dx≠x →
 sp (.ref x::(vs++dvs)) (upd (upd H1 dx (.own x)) x (.ins C dx [])) (fun v H2=>v=.non∧Q (.ref x) H2) E
def Binds (K:PySem.W.Frag)(fd:FuncData)(ps:List Str)(ds:List Value):Prop :=
 ∀(s:Shared) (us:List Value),K.In s.heap→(us++ds).length=ps.length→BindsTo s fd ⟨us,[]⟩ (ps.zip (us++ds))
theorem Binds.all {K:PySem.W.Frag}{fd:FuncData}{ps:List Str}(h:∀us:List Value,us.length=ps.length→bindArgs fd ⟨us,[]⟩=pure (ps.zip us)):Binds K fd ps []:=fun s us _ hl=>by
 rw[List.append_nil] at hl ⊢
 exact .of_eq (h us hl)
def vR (CX:CXT)(X:Cx)(E:XK):Prop:=∀(pins:List (Addr×Obj)) (σ:St) (H:Hp) (s:Shared) (e:Value) (s':Shared),Inv X pins σ H s→CX X.stack H s E e s'→X.xe e s'
section
variable {X:Cx}{CX:CXT}{k:Nat}{f C:Addr}{fd:FuncData}{ps:List Str}{sp:Sp}{dvs:List V}{ds:List Value}{E:XK}{x m:Str}{p pos apos:Pos}{e o:Expr}{es:List Expr}{ta:TE}{t:TA}
theorem run_fn {pins:List (Addr×Obj)}{σ:St}{H:Hp}{s:Shared}{Q:VK}{us:List Value}{vs:List V}(F:FnOk X.prog X.w X.K X.mg X.base CX k f fd ps sp)(hr:Room k X.A)(hb:Binds X.K fd ps ds)(hd:Vals dvs ds)(hx:vR CX X E)
  (I:Inv X pins σ H s) (r:Vals vs us) (h:sp (vs++dvs) H Q E):wpAny (model X.prog X.w) X.A (call (.ref f) us) (EP X pins σ Q) X.xe s:=by
 have r2:Vals (vs++dvs) (us++ds):=r.append hd
 have hl:(us++ds).length=ps.length:=by rw[← r2.length];exact F.len _ _ _ _ h
 refine wpAny_call (codeAny_mono (F.run X.A X.stack s H ⟨us,[]⟩ (us++ds) (vs++dvs) Q E hr I.env0 (hb s us I.kIn hl) r2 h) fun r s' hq=>?_)
 cases r with
 | error e=>exact hx pins σ H s e s' I hq
 | ok fl =>
  cases fl with
  | ret u=>exact I.after hq
  | next=>exact False.elim hq
  | brk=>exact False.elim hq
  | cont=>exact False.elim hq
theorem pe_call (F:FnOk X.prog X.w X.K X.mg X.base CX k f fd ps sp)(hr:Room k X.A)(hg:Gl X x)(hm:X.mg x=some (.ref f))(hk:PySem.W.keepIn X.K (.ref f)=true)(hb:Binds X.K fd ps ds)(hd:Vals dvs ds)(hx:vR CX X E)
  (ha:PA X (e::es) t) (hdb:(x == ("__debug__" : Str))=false:=by decide) (he:starEach (e::es) X.env=(false,eval e X.env)::starEach es X.env:=by rfl) (hpl:(backTo pos (starEach es X.env)).any (·.1)=false:=by rfl) :
  PE X (.Call (.Name x p) (e::es) [] pos) (tCall sp dvs E t):=by
 intro pins s σ H Q I h
 refine wpAny_Call_Name_kw (zcI I hg hm ?_ hdb)
 refine PySem.W.callWith_K (h₀:=X.base) I.ok.mod.kin hk (thn (ha pos pins s σ H _ I h) fun us s1 ⟨vs,H1,I1,r,q⟩=>⟨I1.kIn,?_⟩) he hpl
 exact run_fn F hr hb hd hx I1 r q
theorem pe_meth {pl:Sem Bool}(he:PE X o ta)(c:Cls X.K C)(hm:Meth X.K C m f)(F:FnOk X.prog X.w X.K X.mg X.base CX k f fd ps sp)(hr:Room k X.A)(hb:Binds X.K fd ps ds)(hd:Vals dvs ds)(hx:vR CX X E)(ha:PA X (e::es) t)
  (hst:starEach (e::es) X.env=(false,eval e X.env)::starEach es X.env:=by rfl) (hpl:(backTo pos (starEach es X.env)).any (·.1)=false:=by rfl)
  (ht:eval (.Call (.Attribute o m apos) (e::es) [] pos) X.env=(do
   let ov ← eval o X.env
   standAt apos.atName
   let (f,first) ← holding [ov] (getMethod ov m pl)
   callWith pos f first (backTo pos (starEach (e::es) X.env)) (backToKw pos (keywordEach [] X.env))):=by rfl) :
  PE X (.Call (.Attribute o m apos) (e::es) [] pos) (tMeth C m sp dvs E ta t):=by
 intro pins s σ H Q I h
 refine PySem.W.methodCall_KW (pl:=pl) (thn (he pins s σ H _ I h) fun u s1 ⟨x,H1,I1,rx,a,dx,fs,ex,ea,l,q⟩=>?_) ht
 subst ex
 obtain rfl:u=Value.ref a:=rx
 refine zb6 I1 ea c hm l ?_
 refine PySem.W.callWith_K (first:=[.ref a]) (h₀:=X.base) I.ok.mod.kin hm.kp (thn (ha pos pins s1 σ H1 _ I1 q) fun us s2 ⟨vs,H2,I2,r,q2⟩=>⟨I2.kIn,?_⟩) hst hpl
 exact run_fn (us:=.ref a::us) (vs:=.ref a::vs) F hr hb hd hx I2 (.cons rfl r) q2
theorem pe_meth0 {pl:Sem Bool}(he:PE X o ta)(c:Cls X.K C)(hm:Meth X.K C m f)(F:FnOk X.prog X.w X.K X.mg X.base CX k f fd ps sp)(hr:Room k X.A)(hb:Binds X.K fd ps ds)(hd:Vals dvs ds)(hx:vR CX X E)
  (ht:eval (.Call (.Attribute o m apos) [] [] pos) X.env=(do
   let ov ← eval o X.env
   standAt apos.atName
   let (f,first) ← holding [ov] (getMethod ov m pl)
   callWith pos f first (backTo pos (starEach [] X.env)) (backToKw pos (keywordEach [] X.env))):=by rfl) :
  PE X (.Call (.Attribute o m apos) [] [] pos) (tMeth C m sp dvs E ta tNil):=by
 intro pins s σ H Q I h
 refine PySem.W.methodCall_KW (pl:=pl) (thn (he pins s σ H _ I h) fun u s1 ⟨x,H1,I1,rx,a,dx,fs,ex,ea,l,q⟩=>?_) ht
 subst ex
 obtain rfl:u=Value.ref a:=rx
 refine zb6 I1 ea c hm l ?_
 exact PySem.W.callWith_K0 (first:=[.ref a]) I1.kIn hm.kp (run_fn (us:=[.ref a]) (vs:=[.ref a]) F hr hb hd hx I1 (.cons rfl .nil) q)
structure Mk (K:PySem.W.Frag)(C f:Addr):Prop where
 makes:PySem.W.makesIn K C=true
 init:PySem.W.findIn K (.ref C) "__init__" = some (some (.ref f))
 fn:PySem.W.isFn K (.ref f)=true
 kp:PySem.W.keepIn K (.ref C)=true
theorem run_make {pins:List (Addr×Obj)}{σ:St}{H:Hp}{s:Shared}{Q:VK}{us:List Value}{vs:List V}(M:Mk X.K C f)(F:FnOk X.prog X.w X.K X.mg X.base CX k f fd ps sp)(hr:Room (k+1) X.A)(hb:Binds X.K fd ps ds)(hd:Vals dvs ds)
  (hx:vR CX X E) (I:Inv X pins σ H s) (r:Vals vs us)
  (h:∀x dx,H x=none→H dx=none→dx≠x→sp (.ref x::(vs++dvs)) (upd (upd H dx (.own x)) x (.ins C dx [])) (fun v H2=>v=.non∧Q (.ref x) H2) E) :
  wpAny (model X.prog X.w) X.A (call (.ref C) us) (EP X pins σ Q) X.xe s:=by
 have hq:=h (s.heap.objs.size+1) s.heap.objs.size (I.hok.fresh (Nat.le_succ _)) (I.hok.fresh (Nat.le_refl _)) (Nat.ne_of_lt (Nat.lt_succ_self _))
 have I2:=Inv.made (C:=C) I
 have r2:Vals (V.ref (s.heap.objs.size+1)::(vs++dvs)) (Value.ref (s.heap.objs.size+1)::(us++ds)):=.cons rfl (r.append hd)
 have hl:(Value.ref (s.heap.objs.size+1)::us++ds).length=ps.length:=by
  have e:=r2.length
  rw[F.len _ _ _ _ hq] at e
  exact e.symm
 refine wpAny_call (make_map (f:=f) I.kIn M.makes M.init (beq_iff_eq.mp M.fn) (codeAny_mono (F.run _ X.stack _ _ ⟨Value.ref (s.heap.objs.size+1)::us,[]⟩ (Value.ref (s.heap.objs.size+1)::(us++ds)) _ _ E (hr.make C us [])
  (I2.env0.make C us []) (hb _ (Value.ref (s.heap.objs.size+1)::us) I2.kIn hl) r2 hq) fun r s' hq'=>?_))
 cases r with
 | error e=>exact hx pins σ _ _ e s' I2 hq'
 | ok fl =>
  cases fl with
  | ret u =>
   obtain⟨v,H',I3,rv,ev,q3⟩:=I2.after hq'
   subst ev
   exact⟨rv,⟨V.ref (s.heap.objs.size+1),H',I3,rfl,q3⟩⟩
  | next=>exact False.elim hq'
  | brk=>exact False.elim hq'
  | cont=>exact False.elim hq'
theorem pe_make (M:Mk X.K C f)(F:FnOk X.prog X.w X.K X.mg X.base CX k f fd ps sp)(hr:Room (k+1) X.A)(hg:Gl X x)(hm:X.mg x=some (.ref C))(hb:Binds X.K fd ps ds)(hd:Vals dvs ds)(hx:vR CX X E)
  (ha:PA X (e::es) t) (hdb:(x == ("__debug__" : Str))=false:=by decide) (he:starEach (e::es) X.env=(false,eval e X.env)::starEach es X.env:=by rfl) (hpl:(backTo pos (starEach es X.env)).any (·.1)=false:=by rfl) :
  PE X (.Call (.Name x p) (e::es) [] pos) (tMake C sp dvs E t):=by
 intro pins s σ H Q I h
 refine wpAny_Call_Name_kw (zcI I hg hm ?_ hdb)
 refine PySem.W.callWith_K (h₀:=X.base) I.ok.mod.kin M.kp (thn (ha pos pins s σ H _ I h) fun us s1 ⟨vs,H1,I1,r,q⟩=>⟨I1.kIn,?_⟩) he hpl
 exact run_make M F hr hb hd hx I1 r q
end
structure FnScope (N P:List Str)(sc:Scope):Prop where
 kind:sc.kind=.function
 co:sc.isCoroutine=false
 gen:sc.isGenerator=false
 nd:N.Nodup
 pre:N.take P.length=P
 par:∀x∈P,sc.names.lookup x=some .local∨sc.names.lookup x=some .cell
 nofree:∀y∈sc.names,y.2≠.free
theorem zdR {kindOf:Str→Option NameKind}{x:Str}:∀{binds:List (Str×Value)}{m:Str→Option Value},(∀v,(x,v)∉binds)→bindL kindOf binds m x=m x
 | [],_,_=>rfl
 | (n,v)::r,m,h=>by
  unfold bindL
  rw[zdR fun w hw=>h w (List.mem_cons_of_mem _ hw)]
  split
  ·have:x≠n:=by rintro rfl;exact h v List.mem_cons_self
   simp[this]
  ·rfl
theorem zc8 {kindOf:Str→Option NameKind}{x:Str}:∀{binds:List (Str×Value)}{m:Str→Option Value},(∀v,(x,v)∉binds)→bindC kindOf binds m x=m x
 | [],_,_=>rfl
 | (n,v)::r,m,h=>by
  unfold bindC
  rw[zc8 fun w hw=>h w (List.mem_cons_of_mem _ hw)]
  split
  ·rfl
  ·have:x≠n:=by rintro rfl;exact h v List.mem_cons_self
   simp[this]
theorem zc2 {kindOf:Str→Option NameKind}{x:Str}{v:Value}:∀{P:List Str}{vs:List Value}{i:Nat}{m:Str→Option Value},P.Nodup→P[i]? = some x→vs[i]? = some v→kindOf x=some .local →
  bindL kindOf (P.zip vs) m x=some v
 | [],_,_,_,_,h,_,_=>by simp at h
 | _::_,[],_,_,_,_,h,_=>by simp at h
 | p::P,w::vs,0,m,nd,h1,h2,hk=>by
  simp at h1 h2;subst h1;subst h2
  show bindL kindOf ((p,w)::P.zip vs) m p=_
  unfold bindL
  rw[zdR fun v hv=>(List.nodup_cons.mp nd).1 (List.of_mem_zip hv).1,if_pos hk]
  simp
 | p::P,w::vs,i+1,m,nd,h1,h2,hk=>by
  show bindL kindOf ((p,w)::P.zip vs) m x=_
  unfold bindL
  exact zc2 (i:=i) (List.nodup_cons.mp nd).2 (by simpa using h1) (by simpa using h2) hk
theorem zdG {kindOf:Str→Option NameKind}{x:Str}{v:Value}:∀{P:List Str}{vs:List Value}{i:Nat}{m:Str→Option Value},P.Nodup→P[i]? = some x→vs[i]? = some v→kindOf x≠some .local →
  bindC kindOf (P.zip vs) m x=some v
 | [],_,_,_,_,h,_,_=>by simp at h
 | _::_,[],_,_,_,_,h,_=>by simp at h
 | p::P,w::vs,0,m,nd,h1,h2,hk=>by
  simp at h1 h2;subst h1;subst h2
  show bindC kindOf ((p,w)::P.zip vs) m p=_
  unfold bindC
  rw[zc8 fun v hv=>(List.nodup_cons.mp nd).1 (List.of_mem_zip hv).1,if_neg hk]
  simp
 | p::P,w::vs,i+1,m,nd,h1,h2,hk=>by
  show bindC kindOf ((p,w)::P.zip vs) m x=_
  unfold bindC
  exact zdG (i:=i) (List.nodup_cons.mp nd).2 (by simpa using h1) (by simpa using h2) hk
def start (N:List Str)(vs:List V):St:=vs.map some++List.replicate (N.length - vs.length) none
def zau (CX:CXT)(P:Program)(w:World)(K:PySem.W.Frag)(mg:Str→Option Value)(base:Heap)(N:List Str)(qual:Str)(scope:Scope)(f:Addr)(cd:Value)(A:Around)(outer:List Env)(s:Shared)(H:Hp)(E:XK):Cx where
 prog:=P
 w:=w
 K:=K
 mg:=mg
 base:=base
 A:=A.deeper (envOfC qual scope s.heap.objs.size f cd)
 N:=N
 s₀:=s
 H₀:=H
 env:=envOfC qual scope s.heap.objs.size f cd
 outer:=outer
 stack:=envOfC qual scope s.heap.objs.size f cd::outer
 ex:=[]
 calm:=true
 fn:=fun _=>true
 pn:=[]
 xe:=fun e s'=>wpAny (model P w) (A.deeper (envOfC qual scope s.heap.objs.size f cd)) (leaving (envOfC qual scope s.heap.objs.size f cd) e) (fun _ s''=>CX outer H s E e s'') (fun e' s''=>CX outer H s E e' s'') s'
theorem zaM {sc:Scope}{n:Nat}{x:Str}(h:sc.names.lookup x=some .cell):∃c,(cellsFrom n sc.names []).lookup x=some c:=by
 have q:=PySem.W.cellsFrom_some sc.names n [] (.inl h)
 exact Option.isSome_iff_exists.mp q
theorem inv_start {CX:CXT}{P:Program}{w:World}{K:PySem.W.Frag}{mg:Str→Option Value}{base:Heap}{N ps:List Str}{qual:Str}{scope:Scope}{f:Addr}{cd:Value}{A:Around}{outer:List Env}{s s1:Shared}{H:Hp}{E:XK}{us:List Value}{vs:List V}
  (S:FnScope N ps scope) (hd:A.handled=none) (e0:Env0 P w K mg base A outer s H) (hl:vs.length=ps.length) (r:Vals vs us)
  (x:InCallC s s.heap.objs.size (bindL (envOfC qual scope s.heap.objs.size f cd).kindOf (ps.zip us) fun _=>none) (cellsFrom (s.heap.objs.size+1) scope.names []) (bindC (envOfC qual scope s.heap.objs.size f cd).kindOf (ps.zip us) fun _=>none) s1) :
  Inv (zau CX P w K mg base N qual scope f cd A outer s H E) [] (start N vs) H s1:=by
 have hpl:ps.length≤N.length:=by have:=congrArg List.length S.pre;rw[List.length_take] at this;omega
 obtain⟨h1,tk,rfl,hk⟩:=x.done
 have noA:∀b:Addr,b∉(zau CX P w K mg base N qual scope f cd A outer s H E).ex:=fun b z=>absurd (show b∈([]:List Addr) from z) (by simp)
 refine ⟨⟨e0.mod,S.kind,rfl,rfl,Nat.le_refl _,fun y z c h1 h2=>?_,fun y hy=>?_,fun y c _ h=>?_,fun _=>hd,Around.frames_deeper e0.frames,.inr ⟨rfl,rfl⟩,fun b z=>absurd z (noA b),e0.bs,e0.bsz,fun b _ _=>noA b,fun b z=>absurd z (noA b),e0.funs,e0.frf⟩,
  rfl,e0.bare,Un.kept hk,⟨_,x.toInCall.ns,fun i y v h1 h2 h3=>?_⟩,fun y c h=>⟨_,x.cell y c h⟩,e0.hok.fresh (Nat.le_refl _),fun y c h=>?_,fun p hp=>absurd (show p∈([]:List (Addr×Obj)) from hp) (by simp),e0.hok.kept hk,?_⟩
 ·exact name_of_addr x.apart (PySem.mem_of_lookup h1) (PySem.mem_of_lookup h2)
 ·have hy:scope.names.lookup y=some .cell∨scope.names.lookup y=some .free:=hy
  rcases hy with hy|hy
  ·exact zaM hy
  ·exact absurd rfl (S.nofree _ (PySem.mem_of_lookup hy))
 ·exact Nat.le_of_lt (x.above y c (PySem.mem_of_lookup h))
 ·have hi:i<vs.length:=by
   unfold start at h2
   by_cases hi:i<vs.length
   ·exact hi
   ·rw[List.getElem?_append_right (by simpa using hi)] at h2
    rw[List.getElem?_replicate] at h2
    split at h2 <;>cases h2
  have ha:vs[i]? = some v:=by
   unfold start at h2
   rw[List.getElem?_append_left (by simpa using hi),List.getElem?_map] at h2
   cases e:vs[i]? with
   | none=>rw[e] at h2;cases h2
   | some a=>rw[e] at h2;cases h2;rfl
  obtain⟨u,hu,rv⟩:=r.get ha
  have hp:ps[i]? = some y:=by
   rw[← S.pre,List.getElem?_take_of_lt (by omega)];exact h1
  have ndP:ps.Nodup:=by rw[← S.pre];exact S.nd.sublist (List.take_sublist _ _)
  refine⟨u,rv,?_⟩
  rcases S.par y (List.mem_of_getElem? hp) with k|k
  ·exact .inl ⟨k,zc2 ndP hp hu k⟩
  ·obtain⟨c,e⟩:=zaM (n:=s.heap.objs.size+1) k
   refine .inr ⟨.inl k,c,e,?_⟩
   have q:=x.cell y c e
   rw[zdG ndP hp hu (by show scope.names.lookup y≠_;rw[k];decide)] at q
   exact q
 ·exact e0.hok.fresh (Nat.le_of_lt (x.above y c (PySem.mem_of_lookup h)))
 ·unfold start
  show _=N.length
  rw[List.length_append,List.length_map,List.length_replicate]
  omega
theorem fn_of {CX:CXT}{P:Program}{w:World}{K:PySem.W.Frag}{mg:Str→Option Value}{base:Heap}{k:Nat}{f:Addr}{name qual:Str}{params:Arguments}{body:List Stmt}{scope:Scope}{dV kV doc pm cdv ct oc:Value}{an od:Option Addr}
  {osl:Array (Option Value)}{N ps:List Str}{sp:Sp} (lk:K.lookup f=some ⟨oc,od,.func (PySem.W.fnOf name qual params body scope dV kV doc pm an cdv ct),osl⟩) (hcd:PySem.W.codeIn K cdv qual=true) (S:FnScope N ps scope)
  (len:∀vs H Q E,sp vs H Q E→vs.length=ps.length)
  (hbody:∀(A:Around) (outer:List Env) (s:Shared) (H:Hp) (vs:List V) (Q:VK) (E:XK),Room k (A.deeper (envOfC qual scope s.heap.objs.size f cdv))→sp vs H Q E →
   ∃t,PSs (zau CX P w K mg base N qual scope f cdv A outer s H E) body t∧t {nx:=fun _ H'=>Q .non H',rt:=Q} (start N vs) H) :
  FnOk P w K mg base CX (k+1) f (PySem.W.fnOf name qual params body scope dV kV doc pm an cdv ct) ps sp:=by
 refine⟨len,fun A outer s H args us vs Q E hr e0 hb r hsp=>?_⟩
 have hl:=len _ _ _ _ hsp
 have KX:K.In s.heap:=e0.mod.kin.keeps fun b o e=>(e0.bs b o e).1
 have lim:s.heap.NoLimit:=e0.mod.nolimit.keeps fun b o e=>(e0.bs b o e).1
 have hkind:∀y∈ps.zip us,scope.names.lookup y.1=some .local∨(scope.names.lookup y.1=some .cell∧((cellsFrom (s.heap.objs.size+1) scope.names []).lookup y.1).isSome=true):=fun⟨n,v⟩ hy=>by
  rcases S.par n (List.of_mem_zip hy).1 with q|q
  ·exact .inl q
  ·exact .inr ⟨q,PySem.W.cellsFrom_some _ _ _ (.inl q)⟩
 refine codeAny_call_function hr.depth (KX _ _ lk) rfl S.co S.gen rfl (PySem.W.codeRec_of KX hcd) (hb _ _ _ _ ?_)
 refine wpAny_newFunctionEnv_cells S.kind hkind fun env he s1 x=>?_
 subst he
 refine⟨lim.keeps x.toInCall.keep,codeAny_func ?_⟩
 obtain⟨t,ht,hq⟩:=hbody A outer s H vs Q E (hr.deeper _) hsp
 have I:Inv (zau CX P w K mg base N qual scope f cdv A outer s H E) [] (start N vs) H s1:=inv_start S hr.hd e0 hl r x
 refine wpAny_mono (ht [] s1 (start N vs) H _ I hq) (fun fl s' hs=>?_) fun e s' hs=>hs
 have fin:∀{σ':St}{H':Hp}{v:V}{u:Value},Inv (zau CX P w K mg base N qual scope f cdv A outer s H E) [] σ' H' s'→RelV v u→Q v H'→CE outer P w H s Q u s' :=
  fun {σ' H' v u} J rv q=>⟨v,H',J.os,J.bare,J.base,J.hok,rv,q⟩
 cases fl with
 | ret u =>
  obtain⟨v,σ',H',J,rv,q⟩:=hs
  exact fin J rv q
 | next =>
  obtain⟨σ',H',J,q⟩:=hs
  exact fin (v:=V.non) (u:=Value.none) J rfl q
 | brk =>
  obtain⟨_,_,_,q⟩:=hs
  exact False.elim q
 | cont =>
  obtain⟨_,_,_,q⟩:=hs
  exact False.elim q
end L2
namespace L2
open PySem PySem.Spec PyProof.Rows
section
variable {X:Cx}{x:Str}{p pos:Pos}{e:Expr}{es:List Expr}{t:TA}{id T:String}{r:List V→Hp→VK→Prop}
def tCB (r:List V→Hp→VK→Prop)(t:TA):TE:=fun σ H Q=>t σ H fun vs H1=>r vs H1 Q
theorem zaI (hc:jj X (.builtin id) r)(hg:Gl X x)(hm:X.mg x=none)(hv:bootBuiltins x=some (.builtin id))(ha:PA X (e::es) t)(hn:x ≠ "__name__" := by decide)(hdb:(x == ("__debug__" : Str))=false:=by decide)
  (he:starEach (e::es) X.env=(false,eval e X.env)::starEach es X.env:=by rfl) (hpl:(backTo pos (starEach es X.env)).any (·.1)=false:=by rfl):PE X (.Call (.Name x p) (e::es) [] pos) (tCB r t):=by
 intro pins s σ H Q I h
 refine wpAny_Call_Name_kw (zas I hg hm hv ?_ hn hdb)
 exact PyProof.Rows.callWith_builtin1 (thn (ha pos pins s σ H _ I h) fun us s1 ⟨vs,H1,I1,r1,q1⟩=>hc pins s1 σ H1 vs us Q I1 r1 q1) he hpl
theorem pe_callTy (hc:jj X (.type T) r)(hg:Gl X x)(hm:X.mg x=none)(hv:bootBuiltins x=some (.type T))(ha:PA X (e::es) t)(hn:x ≠ "__name__" := by decide)(hdb:(x == ("__debug__" : Str))=false:=by decide)
  (he:starEach (e::es) X.env=(false,eval e X.env)::starEach es X.env:=by rfl) (hpl:(backTo pos (starEach es X.env)).any (·.1)=false:=by rfl):PE X (.Call (.Name x p) (e::es) [] pos) (tCB r t):=by
 intro pins s σ H Q I h
 refine wpAny_Call_Name_kw (zas I hg hm hv ?_ hn hdb)
 exact PyProof.Rows.callWith_type1 (thn (ha pos pins s σ H _ I h) fun us s1 ⟨vs,H1,I1,r1,q1⟩=>hc pins s1 σ H1 vs us Q I1 r1 q1) he hpl
end
end L2
namespace HT
open PySem PyProof.Rows
section
open PySem.SeqAt
open PySem.AutoSeq1 (wpAny_loadPart')
open PySem.MeetsSeq PySem.MeetsSeq2 PySem.MeetsSeq3
end
section
variable {prog:Program}{w:World}{A:Around}{E:Value→Shared→Prop}{s:Shared}
def sIx (n d:Nat):Option Int→Nat
 | none=>d
 | some v=>if v<0 then(v+(n:Int)).toNat else min v.toNat n
theorem sIx_none (n d:Nat):sIx n d none=d:=rfl
theorem sIx_nat (n d k:Nat):sIx n d (some (k:Int))=min k n:=by
 show(if (k:Int)<0 then((k:Int)+(n:Int)).toNat else min (k:Int).toNat n)=min k n
 rw[if_neg (by omega),Int.toNat_natCast]
theorem sIx_le (n d:Nat)(hd:d≤n)(o:Option Int):sIx n d o≤n:=by
 cases o with
 | none=>exact hd
 | some v =>
  show(if v<0 then(v+(n:Int)).toNat else min v.toNat n)≤n
  by_cases hv:v<0
  ·rw[if_pos hv];omega
  ·rw[if_neg hv];exact Nat.min_le_right _ _
theorem clip_eq (v:Int)(n d:Nat):(if v<0 then max (v+(n:Int)) 0 else min v (n:Int))=((sIx n d (some v):Nat):Int):=by
 show(if v<0 then max (v+(n:Int)) 0 else min v (n:Int))=(((if v<0 then(v+(n:Int)).toNat else min v.toNat n):Nat):Int)
 by_cases hv:v<0
 ·simp only[if_pos hv];omega
 ·simp only[if_neg hv];omega
theorem adjust_gen (lo hi:Option Int)(n:Nat):Builtin.Slice.sliceAdjust lo hi 1 (n:Int)=(((sIx n 0 lo:Nat):Int),((sIx n n hi:Nat):Int)):=by
 have h1:¬((1:Int)<0):=by omega
 unfold Builtin.Slice.sliceAdjust
 simp only[h1,if_false]
 refine Prod.ext ?_ ?_
 ·cases lo with
  | none=>rfl
  | some v=>exact clip_eq v n 0
 ·cases hi with
  | none=>rfl
  | some v=>exact clip_eq v n n
theorem places_gen (i j:Nat):Builtin.Slice.slicePlaces (i:Int) (j:Int) 1=j - i:=by
 unfold Builtin.Slice.slicePlaces
 have h1:(1:Int) > 0:=by omega
 simp only[h1,if_true,Int.ediv_one]
 split <;>omega
theorem zbV {v:Value}{o:Option Int}{Q:Option Int→Shared→Prop}(p:IsPart v o)(h:Q o s):wpAny (model prog w) A (Builtin.Slice.slicePartIndex v) Q E s:=by
 cases p with
 | none=>exact slicePart_none h
 | int i t=>exact slicePart_int h
theorem sliceApplied_gen {sl:Addr}{vl vu:Value}{lo hi:Option Int}{n:Nat}{Q:Int×Int×Nat→Shared→Prop}(hs:s.heap.IsSliceOf sl vl vu .none)(pl:IsPart vl lo)(pu:IsPart vu hi)
  (h:Q (((sIx n 0 lo:Nat):Int),1,sIx n n hi - sIx n 0 lo) s):wpAny (model prog w) A (Builtin.Slice.sliceApplied (.ref sl) (pure (n:Int))) Q E s:=by
 obtain⟨os,hos,hcs,hds⟩:=id hs
 unfold Builtin.Slice.sliceApplied Builtin.Slice.sliceFields
 refine wpAny_bind (wpAny_bind (wpAny_field hos hds (x:=vl) rfl (wpAny_bind (wpAny_field hos hds (x:=vu) rfl (wpAny_bind (wpAny_field hos hds (x:=.none) rfl (wpAny_pure ?_)))))))
 refine wpAny_bind (slicePart_none ?_)
 show wpAny _ _ (if ((1:Int) == 0)=true then _ else _) _ _ s
 rw[if_neg (by decide)]
 refine wpAny_bind (zbV pl (wpAny_bind (zbV pu (wpAny_bind (wpAny_pure ?_)))))
 show wpAny _ _ (match Builtin.Slice.sliceAdjust lo hi 1 (n:Int) with|(lo,hi)=>pure (lo,(1:Int),Builtin.Slice.slicePlaces lo hi 1)) _ _ s
 rw[adjust_gen lo hi n]
 show wpAny _ _ (pure (((sIx n 0 lo:Nat):Int),(1:Int),Builtin.Slice.slicePlaces ((sIx n 0 lo:Nat):Int) ((sIx n n hi:Nat):Int) 1)) _ _ s
 rw[places_gen]
 exact wpAny_pure h
theorem pick_gen (xs:Array Value)(i k:Nat):((List.range k).filterMap fun(m:Nat)=>xs[((i:Int)+(m:Int)*1).toNat]?).toArray=((xs.toList.drop i).take k).toArray:=by
 have e:(fun(m:Nat)=>xs[((i:Int)+(m:Int)*1).toNat]?)=fun m=>xs[i+m]?:=by
  funext m
  have:((i:Int)+(m:Int)*1).toNat=i+m:=by omega
  rw[this]
 rw[e]
 have:=pick_run xs i k
 rw[List.filterMap_map] at this
 have e2:((fun x=>xs[x]?)∘fun x=>i+x)=fun m=>xs[i+m]?:=rfl
 rw[e2] at this
 rw[this]
theorem getItem_tuple_cut {t sl:Addr}{items:Array Value}{vl vu:Value}{lo hi:Option Int}{Q:Value→Shared→Prop}(ht:IsTup s.heap t items)(hs:s.heap.IsSliceOf sl vl vu .none)(pl:IsPart vl lo)(pu:IsPart vu hi)
  (hw:¬(sIx items.size 0 lo=0∧sIx items.size items.size hi=items.size))
  (h:Q (.ref s.heap.objs.size) {s with heap:=s.heap.push {cls:=.type "tuple", data:=.seq ((items.toList.drop (sIx items.size 0 lo)).take (sIx items.size items.size hi - sIx items.size 0 lo)).toArray} })
  (hsz:items.size≤sizeLine):wpAny (model prog w) A (getItem (.ref t) (.ref sl)) Q E s:=by
 have htake:sizeOk (.seq ((items.toList.drop (sIx items.size 0 lo)).take (sIx items.size items.size hi - sIx items.size 0 lo)).toArray):=by
  show((items.toList.drop (sIx items.size 0 lo)).take (sIx items.size items.size hi - sIx items.size 0 lo)).toArray.size≤sizeLine
  rw[List.size_toArray,List.length_take,List.length_drop,Array.length_toList]
  omega
 have hj:sIx items.size items.size hi≤items.size:=sIx_le _ _ (Nat.le_refl _) hi
 obtain⟨os,hos,hcs,hds⟩:=id hs
 have hTs:s.TypeIs (.ref sl) "slice" := ⟨os,hos,hcs⟩
 unfold getItem
 try with_reducible refine wpAny_holding ?_
 first|refine wpAny_bind (wpAny_pure ?_)|skip
 refine wpAny_bind (wpAny_sequenceKey ht.typeIs (by decide) ?_)
 refine wpAny_bind (wpAny_callSpecial?_slot (name:=Str.ofString "__getitem__") ht.typeIs PyProof.Rows.slot_tuple_getitem
  (wpAny_call_entry PyProof.Rows.slot_tuple_getitem ht.typeIs entry_tuple_getitem ?_ (args_tuple_getitem _ _)))
 show wpAny _ _ (Builtin.Tuple.tupleItemsOf (.ref t) >>= _) _ _ s
 refine wpAny_bind (tupleItemsOf_ ht ?_)
 refine wpAny_bind (wpAny_typeOf hTs ?_)
 rw[if_pos (by decide)]
 refine wpAny_bind (sliceApplied_gen hs pl pu ?_)
 have hno:¬((((sIx items.size 0 lo:Nat):Int) == 0&&(1:Int) == 1&&(sIx items.size items.size hi - sIx items.size 0 lo) == items.size)=true):=by
  intro q
  rw[Bool.and_eq_true,Bool.and_eq_true] at q
  have q1:((sIx items.size 0 lo:Nat):Int)=0:=eq_of_beq q.1.1
  have q2:sIx items.size items.size hi - sIx items.size 0 lo=items.size:=eq_of_beq q.2
  exact hw ⟨by omega,by omega⟩
 show wpAny _ _ (if (((sIx items.size 0 lo:Nat):Int) == 0&&(1:Int) == 1&&(sIx items.size items.size hi - sIx items.size 0 lo) == items.size)=true then _ else _) _ _ s
 rw[if_neg hno,pick_gen]
 first
  | exact wpAny_bind (m:=Builtin.Tuple.tupleExact _) (wpAny_newObj_type (wpAny_pure ⟨_,rfl,wpAny_pure h⟩) htake)
  | exact wpAny_bind (m:=Builtin.Tuple.tupleExact _) (wpAny_newObj_type (wpAny_bind (wpAny_pure (wpAny_pure ⟨_,rfl,wpAny_pure h⟩))) htake)
  | exact wpAny_bind (wpAny_bind (m:=Builtin.Tuple.tupleExact _) (wpAny_newObj_type (wpAny_pure (wpAny_pure ⟨_,rfl,wpAny_pure h⟩)) htake))
  | exact wpAny_bind (wpAny_bind (m:=Builtin.Tuple.tupleExact _) (wpAny_newObj_type (wpAny_pure ⟨_,rfl,wpAny_pure h⟩) htake))
end
end HT
namespace L2
open PySem PySem.Spec PyProof.Rows
abbrev TO:=St→Hp→(Option Int→Hp→Prop)→Prop
def PO (X:Cx)(e:Option Expr)(t:TO):Prop :=
 ∀ (pins:List (Addr×Obj)) (s:Shared) (σ:St) (H:Hp) (Q:Option Int→Hp→Prop),Inv X pins σ H s→t σ H Q →
  wpAny (model X.prog X.w) X.A (evalPart e X.env) (fun u s'=>∃o H',Inv X pins σ H' s'∧IsPart u o∧Q o H') X.xe s
def tNoPart:TO:=fun _ H Q=>Q none H
def tPart (t:TE):TO:=fun σ H Q=>t σ H fun x H1=>∃i,x=.int i∧Q (some i) H1
section
variable {X:Cx}{e:Expr}{te:TE}{lo hi:Option Expr}{tl th:TO}{pos p2:Pos}
theorem po_none:PO X none tNoPart:=by
 intro pins s σ H Q I h
 rw[evalPart_none]
 exact wpAny_pure ⟨none,H,I,.none,h⟩
theorem po_some (h:PE X e te):PO X (some e) (tPart te):=by
 intro pins s σ H Q I hw
 rw[evalPart_some]
 refine thn (h pins s σ H _ I hw) fun u s1 hq21=>?_
 obtain⟨x,H1,I1,r1,q1⟩:=hq21
 obtain⟨i,rfl,q⟩:=q1
 obtain⟨t,rfl⟩:=r1
 exact⟨some i,H1,I1,.int i t,q⟩
def SlR (X:Cx)(r:V→Option Int→Option Int→Hp→VK→Prop):Prop :=
 ∀ (pins:List (Addr×Obj)) (s:Shared) (σ:St) (H:Hp) (x:V) (v vl vu:Value) (lo hi:Option Int) (sl:Addr) (Q:VK),Inv X pins σ H s→RelV x v→s.heap.IsSliceOf sl vl vu .none→IsPart vl lo→IsPart vu hi→r x lo hi H Q →
  ∃T id,typeLookup (.type T) "__getitem__" = pure (some (.builtin id))∧s.TypeIs v T∧wpAny (model X.prog X.w) X.A (getItem v (.ref sl)) (EP X pins σ Q) X.xe s
theorem SlR.or {r r':V→Option Int→Option Int→Hp→VK→Prop}(h:SlR X r)(h':SlR X r'):SlR X (fun x lo hi H Q=>r x lo hi H Q∨r' x lo hi H Q):=by
 intro pins s σ H x v vl vu lo hi sl Q I rx hs pl pu q
 rcases q with q|q
 ·exact h pins s σ H x v vl vu lo hi sl Q I rx hs pl pu q
 ·exact h' pins s σ H x v vl vu lo hi sl Q I rx hs pl pu q
def tSl (r:V→Option Int→Option Int→Hp→VK→Prop)(te:TE)(tl th:TO):TE:=fun σ H Q=>te σ H fun x H1=>tl σ H1 fun l H2=>th σ H2 fun u H3=>r x l u H3 Q
theorem pe_slice {r:V→Option Int→Option Int→Hp→VK→Prop}(hr:SlR X r)(he:PE X e te)(hl:PO X lo tl)(hu:PO X hi th):PE X (.Subscript e (.Slice lo hi none p2) pos) (tSl r te tl th):=by
 intro pins s σ H Q I h
 refine Subscript_ (thn (he pins s σ H _ I h) fun v s1 hq22=>?_)
 obtain⟨x,H1,I1,r1,q1⟩:=hq22
 refine wpAny_Slice (thn (hl pins s1 σ H1 _ I1 q1) fun vl s2 ⟨l,H2,I2,pl,q2⟩=>thn (hu pins s2 σ H2 _ I2 q2) fun vu s3 hq23=>?_)
 obtain⟨u,H3,I3,pu,q3⟩:=hq23
 rw[evalPart_none]
 refine wpAny_pure ?_
 have I4:Inv X pins σ H3 {s3 with heap:=s3.heap.push {cls:=.type "slice", data:=.fields #[vl,vu,.none]} }:=I3.kept (t':=s3.toks) fun b ob q=>Heap.get?_push_of_some _ q
 obtain⟨T,id,hT,ht,hg⟩:=hr pins {s3 with heap:=s3.heap.push {cls:=.type "slice", data:=.fields #[vl,vu,.none]} } σ H3 x v vl vu l u s3.heap.objs.size Q I4 r1 (Heap.IsSliceOf.new ..) pl pu q3
 show wpAny (model X.prog X.w) X.A (subscriptTail e (.Slice lo hi none p2) v (.ref s3.heap.objs.size)) (EP X pins σ Q) X.xe {s3 with heap:=s3.heap.push {cls:=.type "slice", data:=.fields #[vl,vu,.none]} }
 exact tail_any (ops:=[.ref s3.heap.objs.size,v]) ht hT hg (by with_unfolding_all rfl)
def cutV (xs:List V)(lo hi:Option Int):List V:=(xs.drop (HT.sIx xs.length 0 lo)).take (HT.sIx xs.length xs.length hi - HT.sIx xs.length 0 lo)
theorem zaZ (xs:List V)(lo hi:Option Int):(cutV xs lo hi).length≤xs.length:=by
 unfold cutV
 rw[List.length_take,List.length_drop]
 omega
def rSlT (K:PySem.W.Frag):V→Option Int→Option Int→Hp→VK→Prop:=fun x lo hi H Q=>∃a xs,x=.ref a∧SqT K H a xs ∧
 ¬(HT.sIx xs.length 0 lo=0∧HT.sIx xs.length xs.length hi=xs.length)∧∀p,H p=none→Q (.ref p) (upd H p (.tup (cutV xs lo hi)))
theorem sl_tup:SlR X (rSlT X.K):=by
 intro pins s σ H x v vl vu lo hi sl Q I rx hs pl pu h
 obtain⟨a,xs,rfl,hx,hw,q⟩:=h
 cases rx
 obtain⟨its,r,ht,hz⟩:=I.tuple hx
 have hlen:its.toArray.size=xs.length:=by rw[List.size_toArray];exact r.length.symm
 refine⟨"tuple", _,PyProof.Rows.slot_tuple_getitem.lookup,ht.typeIs,?_⟩
 refine HT.getItem_tuple_cut ht hs pl pu (by rw[hlen];exact hw) ?_ (by rw[hlen];exact hz)
 rw[hlen]
 refine⟨.ref s.heap.objs.size,_,I.laid (t':=s.toks) (o:=.tup (cutV xs lo hi)) (fun b ob q=>Heap.get?_push_of_some _ q) (Nat.le_refl _) ?_,rfl,q _ (I.hok.fresh (Nat.le_refl _))⟩
 exact⟨Nat.le_trans (zaZ xs lo hi) hz,_,(r.drop (HT.sIx xs.length 0 lo)).take (HT.sIx xs.length xs.length hi - HT.sIx xs.length 0 lo),TupD.new _ _⟩
end
end L2
namespace L2
open PySem PySem.Spec PyProof.Rows
def ixN (n:Nat)(i:Int):Option Nat:=if 0≤i then(if i<n then some i.toNat else none) else if -(n:Int)≤i then some (i+n).toNat else none
def atI {α:Type}(xs:List α)(i:Int):Option α:=(ixN xs.length i).bind fun j=>xs[j]?
theorem ixN_seq {n:Nat}{i:Int}{j:Nat}(h:ixN n i=some j):seqIndex? i n=some j∧j<n∧-(n:Int)≤i∧i<n:=by
 unfold ixN at h
 by_cases h0:0≤i
 ·rw [if_pos h0] at h
  by_cases h1:i<n
  ·rw[if_pos h1] at h
   have e:i.toNat=j:=Option.some.inj h
   exact⟨by rw[seqIndex_of h0 h1,e],by omega,by omega,h1⟩
  ·rw[if_neg h1] at h;cases h
 ·rw [if_neg h0] at h
  by_cases h1:-(n:Int)≤i
  ·rw[if_pos h1] at h
   have e:(i+n).toNat=j:=Option.some.inj h
   exact⟨by rw[seqIndex_neg (by omega) h1,e],by omega,h1,by omega⟩
  ·rw[if_neg h1] at h;cases h
theorem zei {α:Type}{xs:List α}{i:Int}{v:α}(h:atI xs i=some v):∃j,seqIndex? i xs.length=some j∧xs[j]? = some v∧j<xs.length∧-(xs.length:Int)≤i∧i<xs.length:=by
 unfold atI at h
 cases e:ixN xs.length i with
 | none=>rw[e] at h;cases h
 | some j =>
  rw[e] at h
  obtain⟨h1,h2,h3,h4⟩:=ixN_seq e
  exact⟨j,h1,h,h2,h3,h4⟩
theorem atI_nat {α:Type}{xs:List α}{j:Nat}{v:α}(h:xs[j]? = some v):atI xs (j:Int)=some v:=by
 have hj:j<xs.length:=(List.getElem?_eq_some_iff.mp h).1
 have e:ixN xs.length (j:Int)=some j:=by
  unfold ixN
  rw[if_pos (by omega),if_pos (by omega)];simp
 unfold atI;rw[e];exact h
def zaP (b:Expr):Prop:=∀o i,subscripted b false o i=operate [o,i] (getItem o i)
def IxR (X:Cx)(r:R2):Prop :=
 ∀ (value slice:Expr) (pins:List (Addr×Obj)) (s:Shared) (σ:St) (H:Hp) (x y:V) (v u:Value) (Q:VK),Inv X pins σ H s→RelV x v→RelV y u→r x y H Q →
  subscripted slice false v u=operate [v,u] (getItem v u)→wpAny (model X.prog X.w) X.A (subscriptTail value slice v u) (EP X pins σ Q) X.xe s
def MtR (X:Cx)(id:String)(r:V→List V→Hp→VK→Prop):Prop :=
 ∀ (pins:List (Addr×Obj)) (s:Shared) (σ:St) (H:Hp) (x:V) (xs:List V) (v:Value) (us:List Value) (Q:VK),Inv X pins σ H s→RelV x v→Vals xs us→r x xs H Q →
  wpAny (model X.prog X.w) X.A (call (.builtin id) (v::us)) (EP X pins σ Q) X.xe s
section
variable {X:Cx}{a b:Expr}{ta tb:TE}{pos:Pos}
theorem IxR.or {r r':R2}(h:IxR X r)(h':IxR X r'):IxR X (fun x y H Q=>r x y H Q∨r' x y H Q):=by
 intro value slice pins s σ H x y v u Q I rx ry q hs
 rcases q with q|q
 ·exact h value slice pins s σ H x y v u Q I rx ry q hs
 ·exact h' value slice pins s σ H x y v u Q I rx ry q hs
theorem pe_ix {r:R2}(hr:IxR X r)(ha:PE X a ta)(hb:PE X b tb)(hs:zaP b):PE X (.Subscript a b pos) (tOp r ta tb):=by
 intro pins s σ H Q I h
 exact Subscript_ (binT ha hb I h fun v u s2 x y H2 I2 rx ry q=>hr a b pins s2 σ H2 x y v u Q I2 rx ry q (hs _ _))
def rIxL (K:PySem.W.Frag):R2:=fun x y H Q=>∃p xs i v,x=.ref p∧y=.int i∧SqL K H p xs∧atI xs i=some v∧Q v H
def rIxT (K:PySem.W.Frag):R2:=fun x y H Q=>∃p xs i v,x=.ref p∧y=.int i∧SqT K H p xs∧atI xs i=some v∧Q v H
def rIxS:R2:=fun x y H Q=>∃z i c,x=.str z∧y=.int i∧z.length≤sizeLine∧atI z.cps.toList i=some c∧Q (.str ⟨#[c]⟩) H
theorem ix_list:IxR X (rIxL X.K):=by
 intro value slice pins s σ H x y v u Q I rx ry h hs
 obtain⟨p,xs,i,z,rfl,rfl,hq,he,q⟩:=h
 cases rx
 obtain⟨t,rfl⟩:=ry
 obtain⟨its,r,pl,hz⟩:=I.list hq
 obtain⟨j,h1,h2,h3,h4,h5⟩:=zei he
 obtain⟨w,ew,rw'⟩:=r.get h2
 have hl:=r.length
 have hn:=line63
 have fin:EP X pins σ Q w s:=⟨z,H,I,rw',q⟩
 by_cases h0:0≤i
 ·have hj:i.toNat=j:=by
   rw[seqIndex_of h0 h5] at h1
   exact Option.some.inj h1
  exact item_listR pl.isList h0 (by omega) (by rw[hj];simpa using ew) fin hs
 ·have hj:(i+(its.toArray.size:Int)).toNat=j:=by
   rw[seqIndex_neg (by omega) h4] at h1
   rw[List.size_toArray,← hl]
   exact Option.some.inj h1
  exact subscriptTail_builtinR (x:=w) pl.isList.typeIs slot_list_getitem.lookup
   (wpAny_getItem_list_neg (Q:=fun r s'=>r=w∧EP X pins σ Q r s') pl.isList (by omega) (by rw[List.size_toArray] <;>omega) (by omega) (by rw[hj];simpa using ew) ⟨rfl,fin⟩) hs
theorem ix_tup:IxR X (rIxT X.K):=by
 intro value slice pins s σ H x y v u Q I rx ry h hs
 obtain⟨p,xs,i,z,rfl,rfl,hq,he,q⟩:=h
 cases rx
 obtain⟨t,rfl⟩:=ry
 obtain⟨its,r,pl,hz⟩:=I.tuple hq
 obtain⟨j,h1,h2,h3,h4,h5⟩:=zei he
 obtain⟨w,ew,rw'⟩:=r.get h2
 have hl:=r.length
 have hn:=line63
 have fin:EP X pins σ Q w s:=⟨z,H,I,rw',q⟩
 exact subscriptTail_builtinR (x:=w) pl.typeIs slot_tuple_getitem.lookup
  (getItem_tuple (j:=j) (Q:=fun r s'=>r=w∧EP X pins σ Q r s') pl (by omega) (by omega) (by rw[List.size_toArray,← hl];exact h1) (by simpa using ew) ⟨rfl,fin⟩) hs
theorem ix_str:IxR X rIxS:=by
 intro value slice pins s σ H x y v u Q I rx ry h hs
 obtain⟨z,i,c,rfl,rfl,hz,he,q⟩:=h
 obtain⟨t,rfl⟩:=rx
 obtain⟨t',rfl⟩:=ry
 obtain⟨j,h1,h2,h3,h4,h5⟩:=zei he
 have hl:z.cps.toList.length=z.length:=by simp[Str.length]
 rw[hl] at h1 h4 h5
 have hn:=line63
 exact tail_any (typeIs_str s z t) slot_str_getitem.lookup (getItem_str (c:=c) (by
  have e1:decide (i < -(2 ^ 63:Int))=false:=decide_eq_false (by omega)
  have e2:decide (i≥2 ^ 63)=false:=decide_eq_false (by omega)
  rw[e1,e2,Bool.or_false]) (by rw[h1];simpa using h2) ⟨.str ⟨#[c]⟩,H,I.tok _,⟨_,rfl⟩,q⟩) hs
def rIx (K:PySem.W.Frag):R2:=fun x y H Q=>rIxL K x y H Q∨rIxT K x y H Q∨rIxS x y H Q
theorem ix_seq:IxR X (rIx X.K):=ix_list.or (ix_tup.or ix_str)
theorem Inv.lst {pins:List (Addr×Obj)}{σ:St}{H:Hp}{s:Shared}{p:Addr}{xs:List V}(I:Inv X pins σ H s)(h:H p=some (.lst xs)) :
  ∃(its:List Value) (n:Nat),Vals xs its∧s.heap.get? p=some {cls:=.type "list", data:=.seq its.toArray n}∧xs.length≤sizeLine:=by
 obtain⟨z,its,n,r,e⟩:=I.hok p _ h
 exact⟨its,n,r,e,z⟩
theorem zdE (lo hi:Option Int)(n:Nat):(sliceBounds lo hi none n).1=((HT.sIx n 0 lo:Nat):Int)∧(sliceBounds lo hi none n).2.1=((HT.sIx n n hi:Nat):Int)∧(sliceBounds lo hi none n).2.2=1:=by
 refine⟨?_,?_,rfl⟩
 ·cases lo with
  | none=>simp[sliceBounds,HT.sIx]
  | some i =>
   simp only[sliceBounds,HT.sIx,Option.getD_none,show(1:Int) > 0 by decide,if_true]
   by_cases h:i<0
   ·simp only[h,if_true] <;>omega
   ·simp only[h,if_false] <;>omega
 ·cases hi with
  | none=>simp[sliceBounds,HT.sIx]
  | some i =>
   simp only[sliceBounds,HT.sIx,Option.getD_none,show(1:Int) > 0 by decide,if_true]
   by_cases h:i<0
   ·simp only[h,if_true] <;>omega
   ·simp only[h,if_false] <;>omega
theorem zcq (its:List Value)(lo hi:Option Int):slicePick its.toArray lo hi none=((its.drop (HT.sIx its.length 0 lo)).take (HT.sIx its.length its.length hi - HT.sIx its.length 0 lo)).toArray:=by
 obtain⟨h1,h2,h3⟩:=zdE lo hi its.toArray.size
 unfold slicePick
 rw[h1,h2,h3]
 simp only[sliceRange_one,pick_run,List.size_toArray] <;>rfl
def rSlL (K:PySem.W.Frag):V→Option Int→Option Int→Hp→VK→Prop:=fun x lo hi H Q=>∃a xs,x=.ref a∧SqL K H a xs∧∀p,H p=none→Q (.ref p) (upd H p (.lst (cutV xs lo hi)))
theorem sl_list:SlR X (rSlL X.K):=by
 intro pins s σ H x v vl vu lo hi sl Q I rx hs pl pu h
 obtain⟨a,xs,rfl,hx,q⟩:=h
 cases rx
 obtain⟨its,r,ht,hz⟩:=I.list hx
 have hlen:=r.length
 refine⟨"list", _,slot_list_getitem.lookup,ht.isList.typeIs,?_⟩
 refine wpAny_getItem_list_slice ht.isList hs pl pu .none (by simp) ?_ (by rw[List.size_toArray] <;>omega)
 rw[zcq,← hlen]
 refine⟨.ref s.heap.objs.size,_,I.laid (t':=s.toks) (o:=.lst (cutV xs lo hi)) (fun b ob q=>Heap.get?_push_of_some _ q) (Nat.le_refl _) ?_,rfl,q _ (I.hok.fresh (Nat.le_refl _))⟩
 exact⟨Nat.le_trans (zaZ xs lo hi) hz,_,0,(r.drop (HT.sIx xs.length 0 lo)).take (HT.sIx xs.length xs.length hi - HT.sIx xs.length 0 lo),Heap.get?_push_size _ rfl⟩
def zbR:V→Bool
 | .non=>true
 | .bl _=>true
 | .int _=>true
 | .str _=>true
 | _=>false
def eqV:V→V→Bool
 | .non,.non=>true
 | .bl a,.bl b=>a == b
 | .bl a,.int b=>(if a then 1 else 0) == b
 | .int a,.bl b=>a == (if b then 1 else 0)
 | .int a,.int b=>a == b
 | .str a,.str b=>a == b
 | _,_=>false
theorem eqAt_V {A:Around}{s:Shared}{y x:V}{u v:Value}(ry:RelV y u)(rx:RelV x v)(fy:zbR y=true)(fx:zbR x=true):SeqAt.EqAt A s u v (eqV y x):=by
 cases y with
 | non =>
  cases ry
  cases x with
  | non=>cases rx;exact SeqAt.EqAt.same _
  | bl b=>cases rx;exact SeqAt.EqAt.none_bool b
  | int b=>obtain⟨t,rfl⟩:=rx;exact SeqAt.EqAt.none_int b t
  | str b=>obtain⟨t,rfl⟩:=rx;exact SeqAt.EqAt.none_str b t
  | _=>exact absurd (show false=true from fx) Bool.false_ne_true
 | bl a =>
  cases ry
  cases x with
  | non=>cases rx;exact SeqAt.EqAt.bool_none a
  | bl b=>cases rx;exact SeqAt.EqAt.bool_bool a b
  | int b=>obtain⟨t,rfl⟩:=rx;exact SeqAt.EqAt.bool_int a b t
  | str b=>obtain⟨t,rfl⟩:=rx;exact SeqAt.EqAt.bool_str a b t
  | _=>exact absurd (show false=true from fx) Bool.false_ne_true
 | int a =>
  obtain⟨t',rfl⟩:=ry
  cases x with
  | non=>cases rx;exact SeqAt.EqAt.int_none a t'
  | bl b=>cases rx;exact SeqAt.EqAt.int_bool a t' b
  | int b=>obtain⟨t,rfl⟩:=rx;exact SeqAt.EqAt.int_int a t' b t
  | str b=>obtain⟨t,rfl⟩:=rx;exact SeqAt.EqAt.int_str a t' b t
  | _=>exact absurd (show false=true from fx) Bool.false_ne_true
 | str a =>
  obtain⟨t',rfl⟩:=ry
  cases x with
  | non=>cases rx;exact SeqAt.EqAt.str_none a t'
  | bl b=>cases rx;exact SeqAt.EqAt.str_bool a t' b
  | int b=>obtain⟨t,rfl⟩:=rx;exact SeqAt.EqAt.str_int a t' b t
  | str b=>obtain⟨t,rfl⟩:=rx;exact SeqAt.EqAt.str_str a t' b t
  | _=>exact absurd (show false=true from fx) Bool.false_ne_true
 | _=>exact absurd (show false=true from fy) Bool.false_ne_true
def eqU (x:V)(u:Value):Bool:=match u with
 | .none=>eqV .non x
 | .bool b=>eqV (.bl b) x
 | .int i _=>eqV (.int i) x
 | .str z _=>eqV (.str z) x
 | _=>false
theorem eqU_of {x y:V}{u:Value}(r:RelV y u)(f:zbR y=true):eqU x u=eqV y x:=by
 cases y with
 | non=>cases r;rfl
 | bl b=>cases r;rfl
 | int i=>obtain⟨t,rfl⟩:=r;rfl
 | str z=>obtain⟨t,rfl⟩:=r;rfl
 | _=>exact absurd (show false=true from f) Bool.false_ne_true
theorem zey {x:V}:∀{xs:List V}{us:List Value},Vals xs us→xs.all zbR=true→us.any (eqU x)=xs.any fun y=>eqV y x
 | _,_,.nil,_=>rfl
 | y::xs,u::us,.cons r t,f=>by
  rw[List.all_cons,Bool.and_eq_true] at f
  rw[List.any_cons,List.any_cons,eqU_of r f.1,zey t f.2]
theorem zcb {A:Around}{s:Shared}{x:V}{v:Value}(rx:RelV x v)(fx:zbR x=true):∀{xs:List V}{us:List Value},Vals xs us→xs.all zbR=true→∀u∈us,SeqAt.EqAt A s u v (eqU x u)
 | _,_,.nil,_=>fun u hu=>by cases hu
 | y::xs,u::us,.cons r t,f=>fun u' hu=>by
  rw[List.all_cons,Bool.and_eq_true] at f
  rcases List.mem_cons.mp hu with rfl|hu
  ·rw[eqU_of r f.1];exact eqAt_V r rx f.1 fx
  ·exact zcb rx fx t f.2 u' hu
def inV (x:V)(xs:List V):Bool:=xs.any fun y=>eqV y x
def rIn (K:PySem.W.Frag)(neg:Bool):R2:=fun x y H Q=>∃p xs,y=.ref p∧(SqL K H p xs∨SqT K H p xs)∧zbR x=true∧xs.all zbR=true∧Q (.bl (if neg then !inV x xs else inV x xs)) H
theorem op_in_seq:OpR X (compareOp .In) (rIn X.K false):=by
 intro pins s σ H x y v u Q I rx ry h
 obtain⟨p,xs,rfl,hq,fx,fs,q⟩:=h
 cases ry
 rcases hq with hq|hq
 ·obtain⟨its,r,pl,hz⟩:=I.list hq
  refine SeqAt.in_listAt (eqU x) pl.isList (fun w hw=>zcb rx fx r fs w (by simpa using hw)) ⟨.bl _,H,I,rfl,?_⟩
  rw[show its.toArray.any (eqU x)=its.any (eqU x) by simp,zey r fs]
  exact q
 ·obtain⟨its,r,pl,hz⟩:=I.tuple hq
  refine SeqAt.in_tupleAt (eqU x) pl (fun w hw=>zcb rx fx r fs w (by simpa using hw)) ⟨.bl _,H,I,rfl,?_⟩
  rw[show its.toArray.any (eqU x)=its.any (eqU x) by simp,zey r fs]
  exact q
theorem zcg:jj X (.type "tuple") (fun xs H Q=>∃p ys,xs=[.ref p]∧((SqL X.K H p ys∧∀l,H l=none→Q (.ref l) (upd H l (.tup ys)))∨(SqT X.K H p ys∧Q (.ref p) H))):=by
 intro pins s σ H xs us Q I r h
 obtain⟨p,ys,rfl,h⟩:=h
 obtain⟨u,rfl,rx⟩:=vals1 r
 cases rx
 rcases h with⟨hq,q⟩|⟨hq,q⟩
 ·obtain ⟨its,r',pl,hz⟩:=I.list hq
  have hlen:=r'.length
  refine call_tuple_list pl.isList (fun h' kp=>?_) (by simp only[List.size_toArray] <;>omega)
  have I1:Inv X pins σ H {s with heap:=h'}:=I.kept (t':=s.toks) kp
  have I2:Inv X pins σ (upd H h'.objs.size (.tup ys)) {s with heap:=h'.push {cls:=.type "tuple", data:=.seq its.toArray} } :=
   I1.laid (t':=s.toks) (fun b o e=>Heap.get?_push_of_some _ e) (Nat.le_refl _) (show ObjOk X.prog X.w _ _ _ (.tup ys) from⟨hz,its,r',TupD.new _ _⟩)
  exact⟨.ref h'.objs.size,_,I2,rfl,q _ (I1.hok.fresh (Nat.le_refl _))⟩
 ·obtain⟨its,r',pl,hz⟩:=I.tuple hq
  exact call_tuple_same pl ⟨.ref p,H,I,rfl,q⟩
def tyV (K:PySem.W.Frag)(T:String)(x:V)(H:Hp):Prop:=match x with
 | .str _=>T = "str"
 | .int _=>T = "int"
 | .ref p=>(T = "list" ∧ ∃xs,SqL K H p xs)∨(T = "tuple" ∧ ∃o,K.lookup p=some o∧o.cls=.type "tuple" ∧ o.dict=none) ∨
   (T = "dict" ∧ ((∃kvs,H p=some (.dK kvs))∨∃kvs,H p=some (.dT kvs)))∨(T = "set" ∧ ∃S n,H p=some (.set S n))
 | _=>False
theorem tyV_is {pins:List (Addr×Obj)}{σ:St}{H:Hp}{s:Shared}{T:String}{x:V}{v:Value}(I:Inv X pins σ H s)(r:RelV x v)(ty:tyV X.K T x H) :
  s.TypeIs v T∧∀a,v=.ref a→∃ob,s.heap.get? a=some ob∧ob.dict=none:=by
 cases x with
 | str z =>
  obtain⟨t,rfl⟩:=r
  cases (show T = "str" from ty)
  exact⟨typeIs_str s z t,fun _ e=>nomatch e⟩
 | int i =>
  obtain⟨t,rfl⟩:=r
  cases (show T = "int" from ty)
  exact⟨typeIs_int s i t,fun _ e=>nomatch e⟩
 | ref p =>
  cases r
  rcases ty with⟨rfl,xs,hq⟩|⟨rfl,o,hk,hc,hd⟩|⟨rfl,hk⟩|⟨rfl,S,n,hk⟩
  ·obtain⟨its,_,pl,_⟩:=I.list hq
   refine⟨pl.isList.typeIs,fun a e=>?_⟩
   cases e
   obtain⟨o,n,e,c,hd,_⟩:=pl
   exact⟨o,e,hd⟩
  ·refine⟨⟨o,I.kIn p o hk,hc⟩,fun a e=>?_⟩
   cases e
   exact⟨o,I.kIn _ o hk,hd⟩
  ·have z:∃o,s.heap.get? p=some o∧o.ExactDict:=by
    rcases hk with⟨kvs,hk⟩|⟨kvs,hk⟩
    ·obtain⟨_,_,_,_,o,_,_,e,ex,_⟩:=I.hok p _ hk
     exact⟨o,e,ex⟩
    ·obtain⟨_,_,_,_,o,_,_,e,ex,_⟩:=I.hok p _ hk
     exact⟨o,e,ex⟩
   obtain⟨o,e,ex⟩:=z
   refine⟨⟨o,e,ex.1⟩,fun a e2=>?_⟩
   cases e2
   exact⟨o,e,ex.2.1⟩
  ·obtain⟨o,_,_,_,e,ex,_⟩:=I.hok p _ hk
   refine⟨⟨o,e,ex.1⟩,fun a e2=>?_⟩
   cases e2
   exact⟨o,e,ex.2.1⟩
 | _=>exact False.elim ty
def tBM0 (K:PySem.W.Frag)(T:String)(r:V→List V→Hp→VK→Prop)(to:TE):TE:=fun σ H Q=>to σ H fun x H1=>tyV K T x H1∧r x [] H1 Q
def tBM (K:PySem.W.Frag)(T:String)(r:V→List V→Hp→VK→Prop)(to:TE)(t:TA):TE:=fun σ H Q=>to σ H fun x H1=>tyV K T x H1∧t σ H1 fun xs H2=>r x xs H2 Q
variable {o e:Expr}{es:List Expr}{to:TE}{t:TA}{name:Str}{apos cpos:Pos}{T id:String}{r:V→List V→Hp→VK→Prop}
theorem pe_bm0 (pa:PlainAttrs T)(slot:Slot T name id)(hty:typeOf (.builtin id)=pure (.type "method_descriptor"))(hm:MtR X id r)(ho:PE X o to)
  (hbase:attributeBase o name X.env (eval o X.env)=eval o X.env:=by rfl) (hline:(apos.endLine == cpos.line)=true:=by rfl):PE X (.Call (.Attribute o name apos) [] [] cpos) (tBM0 X.K T r to):=by
 intro pins s σ H Q I h
 refine wpAny_Call_method0_late hbase hline (thn (ho pins s σ H _ I h) fun v s1 hq24=>?_)
 obtain⟨x,H1,I1,r1,ty,q1⟩:=hq24
 obtain⟨h1,h2⟩:=tyV_is I1 r1 ty
 exact⟨T,id,pa,slot,hty,h1,h2,Calls.callWith_builtin rfl (PySem.evalArgs_none (hm pins s1 σ H1 x [] v [] Q I1 r1 .nil q1))⟩
theorem zeq (pa:PlainAttrs T)(slot:Slot T name id)(hty:typeOf (.builtin id)=pure (.type "method_descriptor"))(hm:MtR X id r)(ho:PE X o to)(ha:PA X (e::es) t)
  (hbase:attributeBase o name X.env (eval o X.env)=eval o X.env:=by rfl)
  (hfew:((backTo cpos (starEach (e::es) X.env)).all (fun x=>!x.1)&&(backToKw cpos (keywordEach [] X.env)).all (fun x=>x.1.isSome)
   && decide ((e::es).length+([]:List Keyword).length+(if ([]:List Keyword).isEmpty then 0 else 1)<30))=true:=by rfl)
  (hline:(apos.endLine == cpos.line)=true:=by rfl) (hs:starEach (e::es) X.env=(false,eval e X.env)::starEach es X.env:=by rfl) (hplain:(backTo cpos (starEach es X.env)).any (·.1)=false:=by rfl) :
  PE X (.Call (.Attribute o name apos) (e::es) [] cpos) (tBM X.K T r to t):=by
 intro pins s σ H Q I h
 refine wpAny_Call_method_late hbase hfew hline rfl (thn (ho pins s σ H _ I h) fun v s1 hq25=>?_)
 obtain⟨x,H1,I1,r1,ty,q1⟩:=hq25
 obtain⟨h1,h2⟩:=tyV_is I1 r1 ty
 refine⟨T,id,pa,slot,hty,h1,h2,?_⟩
 have hA:=ha cpos pins s1 σ H1 _ I1 q1
 rw[hs] at hA ⊢
 refine Calls.callWith_builtin (by show(false || (backTo cpos (starEach es X.env)).any (·.1))=false;rw[hplain] <;>rfl) (Calls.evalArgs_plain ?_)
 exact thn hA fun us s2 ⟨vs,H2,I2,r2,q2⟩=>hm pins s2 σ H2 x vs v us Q I2 r1 r2 q2
/- xs.append(e), list.index on a module's tuple .. are MtR facts of 06m -/
end
end L2
namespace L2
open PySem PySem.Spec PyProof.Rows
def MtM (X:Cx)(id:String)(r:V→List V→Hp→VK→Prop):Prop :=
 ∀ (pins:List (Addr×Obj)) (s:Shared) (σ:St) (H:Hp) (x:V) (xs:List V) (v:Value) (us:List Value) (Q:VK),Inv X pins σ H s→RelV x v→Vals xs us→r x xs H Q →
  wpAny (model X.prog X.w) X.A (call (.builtin id) (v::us)) (EP X pins σ Q) X.xe s
theorem Vals.one:∀{x:V}{us:List Value},Vals [x] us→∃u,us=[u]∧RelV x u:=by
 intro x us h
 cases h with
 | cons r t=>cases t;exact⟨_,rfl,r⟩
theorem Vals.two:∀{x y:V}{us:List Value},Vals [x,y] us→∃u v,us=[u,v]∧RelV x u∧RelV y v:=by
 intro x y us h
 cases h with
 | cons r t=>obtain⟨v,rfl,q⟩:=Vals.one t;exact⟨_,_,rfl,r,q⟩
theorem Vals.zero:∀{us:List Value},Vals [] us→us=[]
 | _,.nil=>rfl
theorem Vals.eraseIdx:∀{xs:List V}{us:List Value} (i:Nat),Vals xs us→Vals (xs.eraseIdx i) (us.eraseIdx i)
 | _,_,_,.nil=>.nil
 | _,_,0,.cons _ t=>t
 | _,_,i+1,.cons r t=>.cons r (Vals.eraseIdx i t)
theorem zdA {α:Type}:∀(l:List α) (i:Nat),(l.eraseIdx i).length≤l.length
 | [],_=>Nat.le_refl _
 | _::_,0=>Nat.le_succ _
 | _::r,i+1=>Nat.succ_le_succ (zdA r i)
section
variable {X:Cx}{pins:List (Addr×Obj)}{σ:St}{H:Hp}{s:Shared}{l b:Addr}{xs ys zs:List V}
theorem Inv.lset {its its':List Value}{n:Nat}{f:Array Value→Array Value}{t':Nat}(I:Inv X pins σ H s)(hH:H l=some (.lst xs))
  (e:s.heap.get? l=some {cls:=.type "list", data:=.seq its.toArray n}) (hf:f its.toArray=its'.toArray) (hv:Vals ys its') (hz:ys.length≤sizeLine) :
  Inv X pins σ (upd H l (.lst ys)) {s with heap:=s.heap.update l (Obj.mapSeq f),toks:=t'}:=by
 have q:=PySem.IsL.update e f
 rw[hf] at q
 refine I.write (x:=l) (e:=l) (by rw[hH];exact trivial) (.inl rfl) (fun b' u hb hu=>(Heap.get?_update_other s.heap (Obj.mapSeq f) (Ne.symm hb)).trans hu) ⟨_,q⟩ ?_
 exact⟨hz,its',_,hv,q⟩
theorem Inv.lnew {its:List Value}{t':Nat}(I:Inv X pins σ H s)(hv:Vals ys its)(hz:ys.length≤sizeLine) :
  Inv X pins σ (upd H s.heap.objs.size (.lst ys)) {s with heap:=s.heap.push {cls:=.type "list", data:=.seq its.toArray},toks:=t'} :=
 I.laid (fun _ _ q=>Heap.get?_push_of_some _ q) (Nat.le_refl _) ⟨hz,its,0,hv,Heap.get?_push_size _ rfl⟩
theorem Inv.fresh (I:Inv X pins σ H s):H s.heap.objs.size=none:=I.hok.fresh (Nat.le_refl _)
theorem Inv.lstM (I:Inv X pins σ H s)(hH:H l=some (.lst xs)):xs.length≤sizeLine∧∃(its:List Value) (n:Nat),Vals xs its∧xs.length=its.length∧s.heap.get? l=some {cls:=.type "list", data:=.seq its.toArray n}:=by
 obtain⟨z,its,n,r,e⟩:=I.hok l _ hH
 exact⟨z,its,n,r,r.length,e⟩
end
section
variable {X:Cx}
def rAppend:V→List V→Hp→VK→Prop:=fun x vs H Q=>∃l xs y,x=.ref l∧vs=[y]∧H l=some (.lst xs)∧xs.length<sizeLine∧Q .non (upd H l (.lst (xs++[y])))
theorem zc0:MtM X "list.append" rAppend:=by
 intro pins s σ H x vs v us Q I rx rv h
 obtain⟨l,xs,y,rfl,rfl,hH,hz,q⟩:=h
 cases rx
 obtain⟨u,rfl,ru⟩:=rv.one
 obtain⟨z,its,n,r,hl,e⟩:=I.lstM hH
 refine call_meets F.slot_list_append ⟨_,e,rfl⟩ F.entry_list_append (F.args_list_append_2 _ _) (PySem.list_append l its.toArray n u (by rw[List.size_toArray];omega)) ⟨e,?_⟩
 refine⟨.non,_,I.lset (its':=its++[u]) hH e (by simp) (r.append (.cons ru .nil)) ?_,rfl,q⟩
 rw[List.length_append,List.length_singleton]
 omega
def rPopAt:V→List V→Hp→VK→Prop:=fun x vs H Q=>∃l xs i k y,x=.ref l∧vs=[.int i]∧H l=some (.lst xs)∧-(2 ^ 63)≤i∧i<2 ^ 63∧seqIndex? i xs.length=some k∧xs[k]? = some y∧Q y (upd H l (.lst (xs.eraseIdx k)))
theorem mt_popAt:MtM X "list.pop" rPopAt:=by
 intro pins s σ H x vs v us Q I rx rv h
 obtain⟨l,xs,i,k,y,rfl,rfl,hH,h1,h2,hk,hy,q⟩:=h
 cases rx
 obtain⟨u,rfl,ru⟩:=rv.one
 obtain⟨t,rfl⟩:=ru
 obtain⟨z,its,n,r,hl,e⟩:=I.lstM hH
 obtain⟨w,hw,rw'⟩:=r.get hy
 refine call_meets F.slot_list_pop ⟨_,e,rfl⟩ F.entry_list_pop (F.args_list_pop_2 _ _)
  (MeetsSeq.list_pop_at l its.toArray n i t k w (fitsIndex_both h1 h2) (by rw[List.size_toArray,← hl];exact hk) (by rw[← Array.getElem?_toList];exact hw) (by rw[List.size_toArray];omega)) ⟨e,?_⟩
 refine⟨y,_,I.lset (its':=its.eraseIdx k) hH e ?_ (r.eraseIdx k) ?_,rw',q⟩
 ·show its.toArray.eraseIdxIfInBounds k=(its.eraseIdx k).toArray
  rw[List.eraseIdxIfInBounds_toArray]
 ·have:=zdA xs k
  omega
def rClear:V→List V→Hp→VK→Prop:=fun x vs H Q=>∃l xs,x=.ref l∧vs=[]∧H l=some (.lst xs)∧Q .non (upd H l (.lst []))
theorem mt_clear:MtM X "list.clear" rClear:=by
 intro pins s σ H x vs v us Q I rx rv h
 obtain⟨l,xs,rfl,rfl,hH,q⟩:=h
 cases rx
 have hus:=rv.zero
 subst hus
 obtain⟨z,its,n,r,hl,e⟩:=I.lstM hH
 refine call_meets F.slot_list_clear ⟨_,e,rfl⟩ F.entry_list_clear (F.args_list_clear_1 _) (AutoSeq1.list_clear_list_0 l its.toArray n (by rw[List.size_toArray];omega)) ⟨e,?_⟩
 exact⟨.non,_,I.lset (its':=[]) (ys:=[]) hH e rfl .nil (Nat.zero_le _),rfl,q⟩
end
end L2
namespace L2
open PySem PySem.Spec PyProof.Rows
section
variable {κ:Type} [DecidableEq κ]
def zdk (kvs:List (κ×V))(k:κ):Option V:=(kvs.find? fun kv=>decide (kv.1=k)).map (·.2)
def putK (kvs:List (κ×V))(k:κ)(v:V):List (κ×V) :=
 if (kvs.any fun kv=>decide (kv.1=k))=true then kvs.map (fun kv=>if kv.1=k then(kv.1,v) else kv) else kvs++[(k,v)]
def dropK (kvs:List (κ×V))(k:κ):List (κ×V):=kvs.filter fun kv=>decide (kv.1≠k)
theorem valV_pos {p:κ×V}{r:List (κ×V)}{k:κ}(e:p.1=k):zdk (p::r) k=some p.2:=by simp[zdk,List.find?_cons,e]
theorem valV_neg {p:κ×V}{r:List (κ×V)}{k:κ}(e:¬p.1=k):zdk (p::r) k=zdk r k:=by simp[zdk,List.find?_cons,e]
theorem length_putK (kvs:List (κ×V))(k:κ)(v:V):(putK kvs k v).length≤kvs.length+1:=by
 unfold putK
 split
 ·rw[List.length_map];omega
 ·rw[List.length_append,List.length_cons,List.length_nil];omega
theorem RelO.isSome_eq {o:Option V}{u:Option Value}(r:RelO o u):o.isSome=u.isSome:=by
 cases o with
 | none=>cases u with
  | none=>rfl
  | some _=>exact(show False from r).elim
 | some _=>cases u with
  | none=>exact(show False from r).elim
  | some _=>rfl
theorem RelO.getD {o:Option V}{u:Option Value}{d:V}{d':Value}(r:RelO o u)(rd:RelV d d'):RelV (o.getD d) (u.getD d'):=by
 cases o with
 | none=>cases u with
  | none=>exact rd
  | some _=>exact(show False from r).elim
 | some _=>cases u with
  | none=>exact(show False from r).elim
  | some _=>exact r
theorem KV.val {kvs:List (κ×V)}{vs:List (κ×Value)}(r:KV kvs vs)(k:κ):RelO (zdk kvs k) (valueAt vs k):=by
 unfold KV at r
 induction r with
 | nil=>exact True.intro
 | @cons p q ps qs h t ih =>
  obtain⟨h1,h2⟩:=h
  by_cases e:p.1=k
  ·have e':q.1=k:=h1.symm.trans e
   have b:valueAt (q::qs) k=some q.2:=by simp[valueAt,List.find?_cons,e']
   rw[valV_pos e,b];exact h2
  ·have e':¬q.1=k:=fun z=>e (h1.trans z)
   have b:valueAt (q::qs) k=valueAt qs k:=by simp[valueAt,List.find?_cons,e']
   rw[valV_neg e,b];exact ih
theorem KV.any {kvs:List (κ×V)}{vs:List (κ×Value)}(r:KV kvs vs)(k:κ):(kvs.any fun kv=>decide (kv.1=k))=vs.any fun kv=>decide (kv.1=k):=by
 unfold KV at r
 induction r with
 | nil=>rfl
 | cons h t ih=>rw[List.any_cons,List.any_cons,ih,h.1]
theorem KV.repl {kvs:List (κ×V)}{vs:List (κ×Value)}(r:KV kvs vs)(k:κ){y:V}{u:Value}(ry:RelV y u) :
  KV (kvs.map fun kv=>if kv.1=k then(kv.1,y) else kv) (vs.map fun kv=>if kv.1=k then(kv.1,u) else kv):=by
 unfold KV at r ⊢
 induction r with
 | nil=>exact .nil
 | @cons p q ps qs h t ih =>
  rw[List.map_cons,List.map_cons]
  refine .cons ?_ ih
  obtain⟨h1,h2⟩:=h
  by_cases e:p.1=k
  ·rw[if_pos e,if_pos (h1.symm.trans e)];exact⟨h1,ry⟩
  ·rw[if_neg e,if_neg (fun z=>e (h1.trans z))];exact⟨h1,h2⟩
theorem KV.put {kvs:List (κ×V)}{vs:List (κ×Value)}(r:KV kvs vs)(k:κ){y:V}{u:Value}(ry:RelV y u):KV (putK kvs k y) (stored vs k u):=by
 unfold putK stored
 rw[r.any k]
 by_cases e:(vs.any fun kv=>decide (kv.1=k))=true
 ·rw[if_pos e,if_pos e];exact r.repl k ry
 ·rw[if_neg e,if_neg e];exact Paired.snoc r ⟨rfl,ry⟩
theorem KV.drop {kvs:List (κ×V)}{vs:List (κ×Value)}(r:KV kvs vs)(k:κ):KV (dropK kvs k) (without vs k):=by
 unfold KV at r ⊢
 unfold dropK without
 induction r with
 | nil=>exact .nil
 | @cons p q ps qs h t ih =>
  obtain⟨h1,h2⟩:=h
  rw[List.filter_cons,List.filter_cons]
  by_cases e:p.1=k
  ·have a:¬decide (p.1≠k)=true:=by simp[e]
   have b:¬decide (q.1≠k)=true:=by simp[h1.symm.trans e]
   rw[if_neg a,if_neg b];exact ih
  ·have e':¬q.1=k:=fun z=>e (h1.trans z)
   have a:decide (p.1≠k)=true:=by simp[e]
   have b:decide (q.1≠k)=true:=by simp[e']
   rw[if_pos a,if_pos b];exact .cons ⟨h1,h2⟩ ih
theorem KV.keys {kvs:List (κ×V)}{vs:List (κ×Value)}(r:KV kvs vs):kvs.map (·.1)=vs.map (·.1):=by
 unfold KV at r
 induction r with
 | nil=>rfl
 | cons h t ih=>rw[List.map_cons,List.map_cons,ih,h.1]
theorem KV.length {kvs:List (κ×V)}{vs:List (κ×Value)}(r:KV kvs vs):kvs.length=vs.length:=Paired.length r
end
theorem kV_is {P:Program}{w:World}{k:Key}{u:Value}(r:RelV (kV k) u):(vA P w).is k u=true:=by
 cases k with
 | inl i=>obtain⟨t,e⟩:=(show ∃t,u=Value.int i t from r);subst e;exact mixKind_int P w i t
 | inr x=>obtain⟨t,e⟩:=(show ∃t,u=Value.str x t from r);subst e;exact zbf P w x t
theorem zdv {P:Program}{w:World}:∀{ks:List Key}{us:List Value},Vals (ks.map kV) us→ItemsAre (vA P w) ks us
 | [],_,r=>by rw[List.map_nil] at r;cases r;exact .nil
 | k::ks,_,r=>by
  rw[List.map_cons] at r
  cases r with
  | cons h t=>exact .cons (kV_is h) (zdv t)
abbrev KT (H:Hp):List (List Key×V)→List (List Key×Addr×Value)→Prop:=Paired fun p q=>p.1=q.1∧H q.2.1=some (.tup (p.1.map kV))∧RelV p.2 q.2.2
theorem KT.val {H:Hp}{kvs:List (List Key×V)}{xs:List (List Key×Addr×Value)}(r:KT H kvs xs)(k:List Key):RelO (zdk kvs k) ((atKey xs k).map (·.2)):=by
 induction r with
 | nil=>exact True.intro
 | @cons p q ps qs h t ih =>
  obtain⟨h1,_,h2⟩:=h
  by_cases e:p.1=k
  ·have e':q.1=k:=h1.symm.trans e
   have b:atKey (q::qs) k=some q.2:=by simp[atKey,List.find?_cons,e']
   rw[valV_pos e,b];exact h2
  ·have e':¬q.1=k:=fun z=>e (h1.trans z)
   have b:atKey (q::qs) k=atKey qs k:=by simp[atKey,List.find?_cons,e']
   rw[valV_neg e,b];exact ih
section
variable {P:Program}{w:World}{H:Hp}{h:Heap}{a:Addr}
theorem rd_of {u:HO}(ok:HOk P w H h)(e:Rd H a u):ObjOk P w H h a u:=e.ok ok
theorem dk_rd {kvs:List (Key×V)}(ok:HOk P w H h)(e:Rd H a (.dK kvs)):kvs.length≤sizeLine∧(a == sysModules)=false∧∃vs,KV kvs vs∧h.DictOf (vA P w) a vs :=
 show ObjOk P w H h a (.dK kvs) from rd_of ok e
theorem key_of {ks:List Key}(ok:HOk P w H h)(e:H a=some (.tup (ks.map kV))):(tupleKind (vA P w)).is h ks a:=by
 obtain⟨_,its,r,o,h1,h2,⟨n,h3⟩,_⟩:=(show ObjOk P w H h a (.tup (ks.map kV)) from ok a _ e)
 exact⟨o,its.toArray,n,h1,h2,h3,by simpa using zdv r⟩
theorem dt_rd {kvs:List (List Key×V)}(ok:HOk P w H h)(e:Rd H a (.dT kvs)):kvs.length≤sizeLine∧(a == sysModules)=false ∧
  ∃xs,KT H kvs xs∧h.DictOfH (tupleKind (vA P w)) a xs:=by
 obtain⟨z,y,xs,r,o,es,ep,h1,h2,h3,h4,h5⟩:=(show ObjOk P w H h a (.dT kvs) from rd_of ok e)
 refine⟨z,y,xs,r,o,es,ep,h1,h2,h3,h4,fun x hx=>?_,h5⟩
 have all:∀{l:List (List Key×V)}{m:List (List Key×Addr×Value)},KT H l m→∀x∈m,(tupleKind (vA P w)).is h x.1 x.2.1:=by
  intro l m q
  induction q with
  | nil=>intro x hx;exact nomatch hx
  | @cons p q ps qs hq t ih =>
   intro x hx
   rcases List.mem_cons.mp hx with e|hx
   ·subst e
    exact key_of ok (by rw[← hq.1];exact hq.2.1)
   ·exact ih x hx
 exact all r x hx
end
def DGet (H:Hp)(a:Addr)(y:V)(r:Option V):Prop :=
 (∃kvs k,Rd H a (.dK kvs)∧y=kV k∧r=zdk kvs k)∨∃kvs k b,Rd H a (.dT kvs)∧y=.ref b∧H b=some (.tup (k.map kV))∧r=zdk kvs k
theorem DGet.k {H:Hp}{a:Addr}{kvs:List (Key×V)}{k:Key}(e:H a=some (.dK kvs)):DGet H a (kV k) (zdk kvs k):=.inl ⟨kvs,k,.inl e,rfl,rfl⟩
section
variable {X:Cx}{pins:List (Addr×Obj)}{σ:St}{H:Hp}{s:Shared}{a:Addr}{y v:V}{u r:Value}{o:Option V}{A:Around}{E:Value→Shared→Prop}
theorem Inv.big (I:Inv X pins σ H s):sysModules<s.heap.objs.size:=by
 have h:mainGlobals<s.heap.objs.size:=(I.mod.glob.keeps I.bk).lt
 exact Nat.lt_trans (by decide) h
theorem d_getItem {Q:Value→Shared→Prop}(hu:A.units+1<cLine)(I:Inv X pins σ H s)(g:DGet H a y (some v))(ry:RelV y u)(h:∀w' s',Inv X pins σ H s'→RelV v w'→Q w' s') :
  wpAny (model X.prog X.w) A (getItem (.ref a) u) Q E s:=by
 rcases g with⟨kvs,k,e,ey,l⟩|⟨kvs,k,b,e,ey,eb,l⟩
 ·subst ey
  obtain⟨z,hd,vs,rel,dd⟩:=dk_rd I.hok e
  obtain⟨w',hw,rw'⟩:=RelO.some_of (v:=v) (o:=valueAt vs k) (by rw[l];exact rel.val k)
  exact wpAny_getItem_of (kV_is ry) dd.mapOf hw (h w' _ (I.tok _) rw')
 ·subst ey
  cases (show u=Value.ref b from ry)
  obtain⟨z,hd,xs,rel,dd⟩:=dt_rd I.hok e
  obtain⟨w',hw,rw'⟩:=RelO.some_of (v:=v) (o:=(atKey xs k).map (·.2)) (by rw[l];exact rel.val k)
  obtain⟨p,hp,hp2⟩:=Option.map_eq_some_iff.mp hw
  refine wpAny_getItem_heap (tupleKind_room_in1 hu) (key_of I.hok eb) dd hp ?_
  rw[hp2]
  exact h w' _ (I.tok _) rw'
theorem d_notIn {Q:Value→Shared→Prop}(hu:A.units+1<cLine)(I:Inv X pins σ H s)(g:DGet H a y o)(ry:RelV y u)(h:∀s',Inv X pins σ H s'→Q (.bool (!o.isSome)) s') :
  wpAny (model X.prog X.w) A (compareOp .NotIn u (.ref a)) Q E s:=by
 rcases g with⟨kvs,k,e,ey,l⟩|⟨kvs,k,b,e,ey,eb,l⟩
 ·subst ey
  obtain⟨z,hd,vs,rel,dd⟩:=dk_rd I.hok e
  refine wpAny_notIn_of (kV_is ry) hd dd.mapOf ?_
  rw[← (rel.val k).isSome_eq,← l]
  exact h _ (I.tok _)
 ·subst ey
  cases (show u=Value.ref b from ry)
  obtain⟨z,hd,xs,rel,dd⟩:=dt_rd I.hok e
  refine wpAny_notIn_heap (tupleKind_room_in1 hu) (key_of I.hok eb) hd dd ?_
  have q:=(rel.val k).isSome_eq
  rw[Option.isSome_map] at q
  rw[← q,← l]
  exact h _ (I.tok _)
end
def NoSl (i:Expr):Prop:=∀ov iv,subscripted i false ov iv=operate [ov,iv] (getItem ov iv)
theorem subD_of {prog:Program}{w:World}{A:Around}{E:Value→Shared→Prop}{s:Shared}{env:Env}{value slice:Expr}{pos:Pos}{T id:String}{Q:Value→Shared→Prop}
  (hl:typeLookup (.type T) "__getitem__" = pure (some (.builtin id))) (hs:NoSl slice)
  (h:wpAny (model prog w) A (eval value env) (fun o s₁=>wpAny (model prog w) A (eval slice env) (fun i s₂=>s₂.TypeIs o T∧wpAny (model prog w) A (getItem o i) Q E s₂) E s₁) E s) :
  wpAny (model prog w) A (eval (.Subscript value slice pos) env) Q E s:=by
 refine Subscript_ (wpAny_mono h (fun o s₁ h₁=>wpAny_mono h₁ (fun i s₂ h₂=>?_) fun _ _ x=>x) fun _ _ x=>x)
 obtain⟨hT,h₂⟩:=h₂
 unfold subscriptTail
 refine wpAny_bind ?_
 rw[getitemInPython_of_ne hT.not_modules]
 refine wpAny_bind (wpAny_specialOf hT hl ?_)
 have fin:wpAny (model prog w) A (subscripted slice false o i) (fun r s₃=>wpAny (model prog w) A (letTemporaryGo value o r >>= fun _=>pure r) Q E s₃) E s₂:=by
  rw[hs o i]
  exact wpAny_operating (wpAny_mono h₂ (fun r s₃ h₃=>wpAny_bind (wpAny_letTemporaryGo (wpAny_pure h₃))) fun _ _ x=>x)
 first
  | exact wpAny_pure (wpAny_bind fin)
  | exact wpAny_bind (wpAny_pure (wpAny_bind fin))
  | exact wpAny_bind fin
theorem zdY {X:Cx}{pins:List (Addr×Obj)}{σ:St}{H:Hp}{s:Shared}{a:Addr}{y:V}{o:Option V}(I:Inv X pins σ H s)(g:DGet H a y o):s.TypeIs (.ref a) "dict" := by
 rcases g with⟨kvs,k,e,_,_⟩|⟨kvs,k,b,e,_,_,_⟩
 ·obtain⟨_,_,vs,_,dd⟩:=dk_rd I.hok e
  exact dd.typeIs
 ·obtain⟨_,_,xs,_,dd⟩:=dt_rd I.hok e
  exact dd.typeIs
def tDGet (td ty:TE):TE:=fun σ H Q=>td σ H fun x H1=>ty σ H1 fun y H2=>∃a v,x=.ref a∧DGet H2 a y (some v)∧Q v H2
def tDNotIn (ty td:TE):TE:=fun σ H Q=>ty σ H fun y H1=>td σ H1 fun x H2=>∃a o,x=.ref a∧DGet H2 a y o∧Q (.bl (!o.isSome)) H2
section
variable {X:Cx}{o i e value:Expr}{pos pos' tpos:Pos}{td ty tv:TE}
theorem pe_dget (hu:X.A.units+1<cLine)(ho:PE X o td)(hi:PE X i ty)(hs:NoSl i):PE X (.Subscript o i pos) (tDGet td ty):=by
 intro pins s σ H Q I h
 refine subD_of PySem.F.slot_dict_getitem.lookup hs (thn (ho pins s σ H _ I h) fun u s1 ⟨x,H1,I1,rx,q1⟩=>thn (hi pins s1 σ H1 _ I1 q1) fun iv s2 hq26=>?_)
 obtain⟨y,H2,I2,ry,a,v,ex,g,q2⟩:=hq26
 subst ex
 obtain rfl:u=Value.ref a:=rx
 exact⟨zdY I2 g,d_getItem hu I2 g ry fun w' s3 I3 rw'=>⟨v,H2,I3,rw',q2⟩⟩
theorem pc_dnotin (hu:X.A.units+1<cLine)(hi:PE X i ty)(ho:PE X o td):PC X .NotIn i o (tDNotIn ty td):=by
 intro pins s σ H Q I h
 refine thn (hi pins s σ H _ I h) fun iv s1 ⟨y,H1,I1,ry,q1⟩=>thn (ho pins s1 σ H1 _ I1 q1) fun u s2 hq27=>?_
 obtain⟨x,H2,I2,rx,a,ov,ex,g,q2⟩:=hq27
 subst ex
 obtain rfl:u=Value.ref a:=rx
 exact d_notIn hu I2 g ry fun s3 I3=>⟨.bl (!ov.isSome),H2,I3,rfl,q2⟩
end
end L2
namespace Att
open PySem PySem.W PySem.Calls PyProof.Rows
theorem zbs {P:Params}{h:Heap}:∀(ns:List Int) (vs:List Value),WellAll P h vs (ns.map WData.int)→IntsAre vs ns:=by
 intro ns
 induction ns with
 | nil =>
  intro vs w
  rw[List.map_nil] at w
  cases w
  exact .nil
 | cons n ns ih =>
  intro vs w
  rw[List.map_cons] at w
  cases w with
  | cons a b =>
   cases a
   exact .cons _ _ (ih _ b)
theorem script_of {l:OpenLaw}{n:Nat}(hn:l.most=some n){P:Params}{h:Heap}{args:List WData}{vals:List Value}
  (hpre:l.row.toRowW.claim.pre args=true) (hwl:WellAll P h vals args) :
  ∃a vs ns,vals=[Value.ref a]∧args=[WData.list (ns.map WData.int)]∧h.get? a=some {cls:=.type "list", data:=.seq vs.toArray}∧IntsAre vs ns∧ns.length≤n:=by
 have hsh:WShape.hasAll [] args [.list .int]=true:=(pre_splitW hpre).1
 have hc:l.pre.holds [] {args:=args}=true:=(pre_splitW hpre).2
 obtain⟨d,r,rfl,h1,h2⟩:=hasAllW_cons hsh
 obtain rfl:=hasAllW_nil h2
 obtain⟨xs,rfl,h3⟩:=hasW_list h1
 obtain⟨ns,rfl⟩:=items_int h3
 have hlen:ns.length≤n:=by
  unfold OpenLaw.pre at hc
  have h4:(WTm.not (.lt (.lit (.int (n:Int))) (.len (.arg 0)))).holds [] {args:=[.list (ns.map .int)]}=true:=by
   have h4:=(holds_andW hc).1
   rw[hn] at h4
   exact h4
  have h5:=condW_of h4 (w_not (w_lt w_lit (w_len_list (w_arg rfl))))
  rw[List.length_map] at h5
  refine Nat.le_of_not_lt fun q=>?_
  have q':(n:Int)<((ns.length:Nat):Int):=by omega
  first
   | (rw[decide_eq_true q'] at h5;exact absurd h5 (by decide))
   | (simp at h5;omega)
 cases hwl with
 | cons w1 w2 =>
  cases w2
  cases w1 with
  | list ho hall=>exact⟨_,_,ns,rfl,rfl,ho,zbs ns _ hall,hlen⟩
theorem post_true (l:OpenLaw)(args:List WData):l.row.toRowW.claim.post args (.bool true) args=true :=
 postW_of (r:=l.row.toRowW) (X:=(true == true))
  (show WShape.has [] (.bool true) .bool=true by first|rfl|decide|simp[WShape.has,WShape.arms,WShape.armsAll])
  (show(WTm.eq .res (.lit (.bool true))).value [] {args:=args,res:=some (.bool true),after:=args}=some (.bool (true == true)) from w_eq_bool (w_res rfl) w_lit) rfl
theorem attach_call {l:OpenLaw}{n:Nat}{q:Program}{loose:List Str}{XP:(Str→Option Value)→Heap→Prop}{YP:World→Heap→Prop}{d:DefRec}
  (hn:l.most=some n) (hdf:d.params.defaults=[])
  (call:∀(w:World) (s₀ s₁:Shared) (mg mb:Str→Option Value) (fa:Addr) (o:Obj) (pm cd doc:Value) (a:Addr) (vs:List Value) (ns:List Int),
   Ground q loose [] XP w s₀ mg mb s₁.heap→YP w s₁.heap →
   s₁.heap.get? fa=some o→o.data=.func (docDef d.name d.params d.body d.scope pm cd doc)→s₁.heap.CodeRec cd d.name→mg d.name=some (.ref fa) →
   s₁.heap.get? a=some {cls:=.type "list", data:=.seq vs.toArray}→IntsAre vs ns→ns.length≤n→s₁.gens = #[] →
   codeAny (model l.prog w) callerA (.call (.ref fa) ⟨[.ref a],[]⟩) (fun r s'=>r=.ok (.ret (.bool true))∧OldK s₁.heap s'.heap∧s'.os=s₁.os∧AllBare s'.gens) s₁) :
  WalkO q loose XP YP l.row.toRowW d [] (fun f vs=>PySem.call f vs):=by
 intro w s₀ s₁ mg mb G Y fa o pm cd doc dV kV ho hd hcd hD hmg hg args vals as hpre hlay hrd hwl hlo
 obtain rfl:dV=.none:=Dflts.none hD hdf
 obtain rfl:kV=.none:=Dflts.noKw hD
 obtain⟨a,vs,ns,rfl,rfl,hobj,hints,hlen⟩:=script_of hn hpre hwl
 refine enter_call (codeAny_mono (call w s₀ s₁ mg mb fa o pm cd doc a vs ns G Y ho (fd_plain hd) hcd hmg hobj hints hlen hg) fun r s' hq=>?_)
 obtain⟨rfl,h2,h3,h4⟩:=hq
 exact⟨.inl ⟨.bool true,.bool true,[],rfl,fun _=>rfl,.bool true,post_true l _,fun _=>⟨List.Pairwise.nil,fun _ hm=>(nomatch hm)⟩⟩,h2,h3,h4⟩
section
variable {prog:Program}{w:World}{A:Around}{E:Value→Shared→Prop}{s:Shared}{K:Frag}
end
end Att
namespace L2
open PySem PySem.Spec PyProof.Rows
theorem zdC:∀{vs:List Value}{ns:List Int},IntsAre vs ns→Vals (ns.map V.int) vs
 | _,_,.nil=>.nil
 | _,_,.cons n t h=>.cons ⟨t,rfl⟩ (zdC h)
def Only (H:Hp):Prop:=∀b,H b=none∨∃o xs,H b=some (.frz o (.lst xs))
theorem law_call {P:Program}{w:World}{K:PySem.W.Frag}{mg mb:Str→Option Value}{CX:CXT}{k:Nat}{fa a:Addr}{fd:FuncData}{x:Str}{sp:Sp}{s₁:Shared}{vs:List Value}{ns:List Int}
  (KX:K.In s₁.heap) (hns:s₁.heap.Ns mainGlobals mg) (hb:s₁.heap.Ns builtinsNs mb) (hbb:∀x:Str,x ≠ "__name__" → mb x=bootBuiltins x) (hlim:s₁.heap.NoLimit) (hg:s₁.gens = #[])
  (ha:s₁.heap.get? a=some {cls:=.type "list", data:=.seq vs.toArray}) (hi:IntsAre vs ns) (hl:ns.length≤sizeLine) (hr:Room k callerA)
  (F:∀base:Heap,K.In base→base.Ns mainGlobals mg→FnOk P w K mg base CX k fa fd [x] sp) (hbind:∀(s:Shared) (u:Value),BindsTo s fd ⟨[u],[]⟩ [(x,u)])
  (hsp:∀H:Hp,Only H→SqL K H a (ns.map V.int)→sp [.ref a] H (fun v _=>v=.bl true) fun _ _ _=>False)
  (hCX:∀H e s',CX [] H s₁ (fun _ _ _=>False) e s'→False) :
  codeAny (model P w) callerA (.call (.ref fa) ⟨[.ref a],[]⟩) (fun r s'=>r=.ok (.ret (.bool true))∧OldK s₁.heap s'.heap∧s'.os=s₁.os∧AllBare s'.gens) s₁:=by
 have rv:=zdC hi
 have lenV:=hi.length
 have core:∀H:Hp,Only H→SqL K H a (ns.map V.int)→HOk P w H s₁.heap→(∀b,H b≠none→b=a)→(H a≠none→K.lookup a=none) →
   codeAny (model P w) callerA (.call (.ref fa) ⟨[.ref a],[]⟩) (fun r s'=>r=.ok (.ret (.bool true))∧OldK s₁.heap s'.heap∧s'.os=s₁.os∧AllBare s'.gens) s₁:=by
  intro H hO hS hok hA hK
  have base_of:∀{b:Addr}{o:Obj},s₁.heap.get? b=some o→H b=none→(hidT s₁.heap H).get? b=some o:=fun e n=>hidT_get e n
  have noA:∀{b:Addr}{o:Obj}{es:Array DictEntry}{ep:Nat},s₁.heap.get? b=some o→o.data=.dict es ep→H b=none:=fun {b o es ep} e d=>by
   cases q:H b with
   | none=>rfl
   | some u =>
    have e':b=a:=hA b (by rw[q];simp)
    subst e'
    rw[ha] at e;cases e
    have d':Data.seq vs.toArray _=Data.dict es ep:=d
    cases d'
  have nsK:∀{b:Addr}{m:Str→Option Value},s₁.heap.Ns b m→(hidT s₁.heap H).Ns b m:=fun {b m} ⟨o,es,ep,e,d,r⟩=>⟨o,es,ep,base_of e (noA e d),d,r⟩
  have hKb:K.In (hidT s₁.heap H):=fun b o e=>base_of (KX b o e) (by
   cases q:H b with
   | none=>rfl
   | some u =>
    have e':b=a:=hA b (by rw[q];simp)
    subst e'
    rw[hK (by rw[q];simp)] at e;cases e)
  have hM:Mod K mg (hidT s₁.heap H):=⟨hKb,nsK hns,⟨mb,nsK hb,hbb⟩,let ⟨mc,h1,h2⟩:=hlim;⟨mc,nsK h1,h2⟩⟩
  have e0:Env0 P w K mg (hidT s₁.heap H) callerA [] s₁ H:=⟨rfl,hM,fun b o e=>of_hidT e,Nat.le_of_eq (hidT_size _ _),trivial,fun b hb=>absurd (show b∈([]:List Addr) from hb) (by simp),hok,.of_eq hg⟩
  refine codeAny_mono ((F _ hKb (nsK hns)).run callerA [] s₁ H ⟨[.ref a],[]⟩ [.ref a] [.ref a] _ _ hr e0 (hbind s₁ (.ref a)) (.cons rfl .nil) (hsp H hO hS)) fun r s' h=>?_
  cases r with
  | error e=>exact(hCX H e s' h).elim
  | ok fl =>
   cases fl with
   | next=>exact False.elim h
   | brk=>exact False.elim h
   | cont=>exact False.elim h
   | ret u =>
    obtain⟨v,H',os,bare,un,hok',r',q⟩:=h
    have q':v=.bl true:=q
    subst q'
    obtain rfl:u=Value.bool true:=r'
    refine⟨rfl,OldK.of_keep fun b o e=>?_,os,bare⟩
    cases q:H b with
    | none=>exact un.keep b o e q (by intro z;exact absurd (show b∈([]:List Addr) from z) (by simp)) (by simp)
    | some u =>
     rcases hO b with z|⟨ob,xs,z⟩
     ·rw[q] at z;cases z
     ·have z2:=un.frzs b ob _ z
      obtain⟨e1,_⟩:=hok b _ z
      obtain⟨e2,_⟩:=hok' b _ z2
      rw[e] at e1;cases e1
      exact e2
 cases hk:K.lookup a with
 | some o =>
  have e:=KX a o hk
  rw[ha] at e
  cases e
  refine core (fun _=>none) (fun _=>.inl rfl) (.inr ⟨_,vs.toArray,_,hk,rfl,rfl,rfl,by rw[List.size_toArray,lenV];exact hl,by simpa using rv⟩) (fun b u z=>by have z':(none:Option HO)=some u:=z;cases z') (fun b z=>absurd rfl z) fun z=>absurd rfl z
 | none =>
  refine core (fun b=>if b=a then some (.frz {cls:=.type "list", data:=.seq vs.toArray} (.lst (ns.map V.int))) else none) (fun b=>?_) (.inl (.inr ⟨{cls:=.type "list", data:=.seq vs.toArray},if_pos rfl⟩)) (fun b u z=>?_) (fun b z=>?_) fun _=>hk
  ·by_cases hb:b=a
   ·exact .inr ⟨_,_,if_pos hb⟩
   ·exact .inl (if_neg hb)
  ·by_cases hb:b=a
   ·have z':=(if_pos hb).symm.trans z
    cases z'
    subst hb
    exact⟨ha,by rw[List.length_map];exact hl,vs,_,rv,ha⟩
   ·have z':=(if_neg hb).symm.trans z
    cases z'
  ·by_cases hb:b=a
   ·exact hb
   ·exact absurd (if_neg hb) z
end L2
namespace L2
open PySem PySem.Spec PyProof.Rows
theorem walk_of {l:PySem.W.OpenLaw}{n k:Nat}{q:Program}{loose:List Str}{XP:(Str→Option Value)→Heap→Prop}{YP:World→Heap→Prop}{d:DefRec}{K:Params→PySem.W.Frag}{CX:World→CXT}{sp:World→Sp}{x:Str}
  (hn:l.most=some n) (hn2:n≤sizeLine) (hdf:d.params.defaults=[]) (hr:Room k callerA)
  (hY:∀(w:World) (h:Heap),YP w h→(K w.params).In h)
  (F : ∀(w:World) (mg:Str→Option Value) (fa:Addr) (h:Heap),(K w.params).In h→h.Ns mainGlobals mg→mg d.name=some (.ref fa) →
   ∃ fd:FuncData,(∀(s:Shared) (u:Value),BindsTo s fd ⟨[u],[]⟩ [(x,u)]) ∧
    ∀base:Heap,(K w.params).In base→base.Ns mainGlobals mg→FnOk l.prog w (K w.params) mg base (CX w) k fa fd [x] (sp w))
  (hsp:∀(w:World) (H:Hp) (a:Addr) (ns:List Int),ns.length≤n→Only H→SqL (K w.params) H a (ns.map V.int)→sp w [.ref a] H (fun v _=>v=.bl true) fun _ _ _=>False)
  (hCX:∀(w:World) (H:Hp) (s:Shared) (e:Value) (s':Shared),CX w [] H s (fun _ _ _=>False) e s'→False) :
  PySem.W.WalkO q loose XP YP l.row.toRowW d [] (fun f vs=>PySem.call f vs):=by
 refine Att.attach_call hn hdf fun w s₀ s₁ mg mb fa o pm cd doc a vs ns G Y ho hd hcd hmg hobj hints hlen hg=>?_
 have KX:=hY w _ Y
 obtain⟨fd,hb,hF⟩:=F w mg fa _ KX G.T.g hmg
 exact law_call KX G.T.g G.T.b G.T.builtins G.T.nolimit hg hobj hints (Nat.le_trans hlen hn2) hr hF hb (fun H hO hS=>hsp w H a ns hlen hO hS) fun H e s'=>hCX w H s₁ e s'
end L2
namespace L2
open PySem PySem.Spec PyProof.Rows
def inClass (s:Stmt)(j:Nat):Stmt:=match s with
 | .ClassDef _ _ _ body _ _ _ _ _ _ _=>body.getD j (.Pass ⟨0,0,0,0⟩)
 | _=>.Pass ⟨0,0,0,0⟩
def qN (s:Stmt):Arguments:=match s with
 | .FunctionDef _ a _ _ _ _ _ _ _ _=>a
 | _=>{posonlyargs:=[],args:=[],vararg:=none,kwonlyargs:=[],kw_defaults:=[],kwarg:=none,defaults:=[]}
def wH (s:Stmt):List Stmt:=match s with
 | .FunctionDef _ _ b _ _ _ _ _ _ _=>b
 | _=>[]
def zu (s:Stmt):Scope:=match s with
 | .FunctionDef _ _ _ _ _ _ sc _ _ _=>sc
 | _=>{kind:=.function,names:=[],isGenerator:=false,isCoroutine:=false}
abbrev CX0:CXT:=fun _ _ _ _ _ _=>False
abbrev E0:XK:=fun _ _ _=>False
structure Fun (K:PySem.W.Frag)(x qual:Str)(st:Stmt)(f:Addr)(fd:FuncData):Prop where
 ex:∃(oc:Value) (od:Option Addr) (kV doc pm:Value) (an:Option Addr) (cdv ct:Value) (osl:Array (Option Value)),
  fd=PySem.W.fnOf x qual (qN st) (wH st) (zu st) .none kV doc pm an cdv ct∧K.lookup f=some ⟨oc,od,.func fd,osl⟩∧PySem.W.codeIn K cdv qual=true
 kp:PySem.W.keepIn K (.ref f)=true
section
variable {P:Program}{w:World}{K:PySem.W.Frag}{mg:Str→Option Value}{base:Heap}
theorem Fun.ok {x qual:Str}{st:Stmt}{f:Addr}{fd:FuncData}{N ps:List Str}{k:Nat}{sp:Sp}(F:Fun K x qual st f fd)(S:FnScope N ps (zu st))(len:∀vs H Q E,sp vs H Q E→vs.length=ps.length)
  (hbody:∀(cdv:Value) (A:Around) (outer:List Env) (s:Shared) (H:Hp) (vs:List V) (Q:VK) (E:XK),Room k (A.deeper (envOfC qual (zu st) s.heap.objs.size f cdv))→sp vs H Q E →
   ∃t,PSs (zau CX0 P w K mg base N qual (zu st) f cdv A outer s H E).nox (wH st) t∧t {nx:=fun _ H'=>Q .non H',rt:=Q} (start N vs) H):FnOk P w K mg base CX0 (k+1) f fd ps sp:=by
 obtain⟨oc,od,kV,doc,pm,an,cdv,ct,osl,rfl,lk,hcd⟩:=F.ex
 refine fn_of lk hcd S len fun A outer s H vs Q E hr hsp=>?_
 obtain⟨t,h,q⟩:=hbody cdv A outer s H vs Q E hr hsp
 exact⟨t,h.nox,q⟩
theorem Fun.binds {x qual:Str}{st:Stmt}{f:Addr}{fd:FuncData}{ps:List Str}(F:Fun K x qual st f fd)
  (h:∀(kV doc pm:Value) (an:Option Addr) (cdv ct:Value) (us:List Value),us.length=ps.length→bindArgs (PySem.W.fnOf x qual (qN st) (wH st) (zu st) .none kV doc pm an cdv ct) ⟨us,[]⟩=pure (ps.zip us)):Binds K fd ps []:=by
 obtain⟨oc,od,kV,doc,pm,an,cdv,ct,osl,rfl,lk,hcd⟩:=F.ex
 exact .all (h kV doc pm an cdv ct)
theorem zc9 {x qual:Str}{st:Stmt}{f:Addr}{oc:Value}{od an:Option Addr}{osl:Array (Option Value)}{kV doc pm cdv ct:Value}(l:K.lookup f=some ⟨oc,od,.func (PySem.W.fnOf x qual (qN st) (wH st) (zu st) .none kV doc pm an cdv ct),osl⟩)
  (c:PySem.W.codeIn K cdv qual=true) (k:PySem.W.keepIn K (.ref f)=true):Fun K x qual st f (PySem.W.fnOf x qual (qN st) (wH st) (zu st) .none kV doc pm an cdv ct):=⟨⟨oc,od,kV,doc,pm,an,cdv,ct,osl,rfl,l,c⟩,k⟩
end
theorem hu_of {A:Around}{k:Nat}(hr:Room k A):A.units+1<cLine:=Nat.lt_of_le_of_lt (Nat.add_le_add_left (by decide:1≤64) _) hr.units
section
variable {X:Cx}
theorem pv (i:Nat){x:Str}{pos:Pos}(hN:X.N[i]? = some x:=by rfl)(hv:Vis X.env.scope x:=by first|exact Or.inl rfl|exact Or.inr (Or.inl rfl)|exact Or.inr (Or.inr rfl))(hd:(x == ("__debug__" : Str))=false:=by decide)
  (hcd:(x == ("__classdict__" : Str))=false:=by decide):PE X (.Name x pos) (zcE i):=pe_var hN hv hd hcd
end
def Same (H H':Hp):Prop:=∀b o,H b=some o→H' b=some o
theorem Same.refl (H:Hp):Same H H:=fun _ _ h=>h
theorem Same.trans {H H1 H2:Hp}(a:Same H H1)(b:Same H1 H2):Same H H2:=fun c o h=>b c o (a c o h)
theorem Same.free {H H':Hp}(e:Same H H'){l:Addr}(h:H' l=Option.none):H l=Option.none:=by
 cases q:H l with
 | none=>rfl
 | some o =>
  rw[e l o q] at h
  cases h
theorem Same.seq {K:PySem.W.Frag}{H H':Hp}{a:Addr}{xs:List V}(e:Same H H')(h:SqL K H a xs):SqL K H' a xs:=by
 rcases h with(h|⟨o,h⟩)|h
 ·exact .inl (.inl (e _ _ h))
 ·exact .inl (.inr ⟨o,e _ _ h⟩)
 ·exact .inr h
end L2
namespace My
def low (u d:Int):Int×Int:=(u / (Int.gcd u d:Int),d / (Int.gcd u d:Int))
end My
namespace Zp
open PySem
section
variable {prog:Program}{w:World}{A:Around}{E:Value→Shared→Prop}{s:Shared}
theorem zaj {it t:Addr}{i:Nat}{items}{x:Value}{Q:Value→Shared→Prop}(hit:s.heap.IsTupleIter it t i)
  (ht:s.heap.IsTuple t items) (hx:items[i]? = some x)
  (hQ:∀h',h'.IsTupleIter it t (i+1)→Heap.SameBut it s.heap h'→Q x {s with heap:=h'}) :
  wpAny (model prog w) A (Builtin.SmallTypes.nextOf (.ref it)) Q E s:=by
 obtain⟨o,ho,hc,hd⟩:=id hit
 obtain⟨ol,hol,_,nl,hdl⟩:=ht
 unfold Builtin.SmallTypes.nextOf
 refine wpAny_bind (wpAny_callSpecial?_slot (name:=Str.ofString "__next__") hit.typeIs F.slot_tuple_iterator_next
  (wpAny_call_entry F.slot_tuple_iterator_next hit.typeIs F.entry_tuple_iterator_next ?_ (F.args_tuple_iterator_next_1 _)))
 show wpAny _ _ (field (.ref it) 0 >>= _) _ _ s
 refine wpAny_bind (wpAny_field ho hd (x:=.ref t) rfl ?_)
 show wpAny _ _ (if (Value.ref t == Value.none)=true then _ else _) _ _ s
 rw[if_neg (show ¬((Value.ref t == Value.none)=true) from Bool.false_ne_true)]
 show wpAny _ _ (field (.ref it) 1 >>= _) _ _ s
 refine wpAny_bind (wpAny_field ho hd (x:=.int i 0) rfl ?_)
 show wpAny _ _ (seqItems? (.ref t) >>= _) _ _ s
 refine wpAny_bind (wpAny_seqItems hol hdl ?_)
 simp only[Int.toNat_natCast,hx]
 refine wpAny_bind (wpAny_setField ho hd (by simp) (wpAny_pure ⟨x,rfl,wpAny_pure (hQ _ ?_ (Heap.SameBut.update ..))⟩))
 exact ⟨_,Heap.get?_update_self _ ho (Obj.isFreed_of_fields (Obj.data_mapFields hd _)),(Obj.cls_mapFields ..).trans hc,by
  rw[Obj.data_mapFields hd];simp[rawInt]⟩
theorem zaG {it t:Addr}{i:Nat}{items}{Q:Value→Shared→Prop}(hh:A.handled=none)
  (hit:s.heap.IsTupleIter it t i) (ht:s.heap.IsTuple t items) (hx:items[i]? = none)
  (hE:∀h' e,Heap.ExtBut it s.heap h'→(∃o,h'.get? e=some o∧o.cls=.type "StopIteration")→E (.ref e) {s with heap:=h'}) :
  wpAny (model prog w) A (Builtin.SmallTypes.nextOf (.ref it)) Q E s:=by
 obtain⟨o,ho,hc,hd⟩:=id hit
 obtain⟨ol,hol,_,nl,hdl⟩:=ht
 unfold Builtin.SmallTypes.nextOf
 refine wpAny_bind (wpAny_callSpecial?_slot (name:=Str.ofString "__next__") hit.typeIs F.slot_tuple_iterator_next
  (wpAny_call_entry F.slot_tuple_iterator_next hit.typeIs F.entry_tuple_iterator_next ?_ (F.args_tuple_iterator_next_1 _)))
 show wpAny _ _ (field (.ref it) 0 >>= _) _ _ s
 refine wpAny_bind (wpAny_field ho hd (x:=.ref t) rfl ?_)
 show wpAny _ _ (if (Value.ref t == Value.none)=true then _ else _) _ _ s
 rw[if_neg (show ¬((Value.ref t == Value.none)=true) from Bool.false_ne_true)]
 show wpAny _ _ (field (.ref it) 1 >>= _) _ _ s
 refine wpAny_bind (wpAny_field ho hd (x:=.int i 0) rfl ?_)
 show wpAny _ _ (seqItems? (.ref t) >>= _) _ _ s
 refine wpAny_bind (wpAny_seqItems hol hdl ?_)
 simp only[Int.toNat_natCast,hx]
 refine wpAny_bind (wpAny_rule (wpAny_bind (wpAny_setField ho hd (by simp) ?_)))
 show wpAny _ _ (newExc (.type "StopIteration") [] >>= _) _ _ _
 refine wpAny_bind ?_
 simp only[newExc,newTuple]
 refine wpAny_bind (wpAny_newObj_type ?_ (by size_fits))
 refine wpAny_bind (m:=firstArgMember _ _) (wpAny_of_eq (a:=Value.none) (by first|rfl|(simp only[firstArgMember];rfl)) ?_)
 refine wpAny_newObj_type ?_ (by size_fits)
 simp only[raiseNew]
 refine wpAny_bind (wpAny_handled ?_)
 first|rw[show A.in1.handled=none from hh] | rw[hh]
 refine wpAny_bind (wpAny_pure (wpAny_throw ?_))
 exact hE _ _ (((Heap.SameBut.update ..).extBut.push _).push _) ⟨_,Heap.get?_push_size _ rfl,rfl⟩
theorem zae {it:Addr}{x:Str}{t:Tok}{i c:Nat}{Q:Value→Shared→Prop}(hit:s.heap.IsStrIter it "str_ascii_iterator" x t i)(hx:x.cps[i]? = some c)
  (hQ:∀h',h'.IsStrIter it "str_ascii_iterator" x t (i+1)→Heap.SameBut it s.heap h'→Q (.str ⟨#[c]⟩ s.toks) {s with heap:=h',toks:=s.toks+1}) :
  wpAny (model prog w) A (Builtin.SmallTypes.nextOf (.ref it)) Q E s:=by
 obtain⟨o,ho,hc,hd⟩:=id hit
 unfold Builtin.SmallTypes.nextOf
 refine wpAny_bind (wpAny_callSpecial?_slot (name:=Str.ofString "__next__") hit.typeIs F.slot_str_ascii_iterator_next
  (wpAny_call_entry F.slot_str_ascii_iterator_next hit.typeIs F.entry_str_ascii_iterator_next ?_ (F.args_str_ascii_iterator_next_1 _)))
 show wpAny _ _ (field (.ref it) 0 >>= _) _ _ s
 refine wpAny_bind (wpAny_field ho hd (x:=.str x t) rfl ?_)
 show wpAny _ _ (field (.ref it) 1 >>= _) _ _ s
 refine wpAny_bind (wpAny_field ho hd (x:=.int i 0) rfl ?_)
 simp only[Int.toNat_natCast,hx]
 refine wpAny_bind (wpAny_setField ho hd (by simp) (wpAny_bind (wpAny_mkStr (wpAny_pure ⟨_,rfl,wpAny_pure (hQ _ ?_ (Heap.SameBut.update ..))⟩) (by show 1≤sizeLine;decide))))
 exact ⟨_,Heap.get?_update_self _ ho (Obj.isFreed_of_fields (Obj.data_mapFields hd _)),(Obj.cls_mapFields ..).trans hc,by
  rw[Obj.data_mapFields hd];simp[rawInt]⟩
theorem zaA {it:Addr}{x:Str}{t:Tok}{i:Nat}{Q:Value→Shared→Prop}(hh:A.handled=none)
  (hit:s.heap.IsStrIter it "str_ascii_iterator" x t i) (hx:x.cps[i]? = none)
  (hE:∀h' e,Heap.ExtBut it s.heap h'→(∃o,h'.get? e=some o∧o.cls=.type "StopIteration")→E (.ref e) {s with heap:=h'}) :
  wpAny (model prog w) A (Builtin.SmallTypes.nextOf (.ref it)) Q E s:=by
 obtain⟨o,ho,hc,hd⟩:=id hit
 unfold Builtin.SmallTypes.nextOf
 refine wpAny_bind (wpAny_callSpecial?_slot (name:=Str.ofString "__next__") hit.typeIs F.slot_str_ascii_iterator_next
  (wpAny_call_entry F.slot_str_ascii_iterator_next hit.typeIs F.entry_str_ascii_iterator_next ?_ (F.args_str_ascii_iterator_next_1 _)))
 show wpAny _ _ (field (.ref it) 0 >>= _) _ _ s
 refine wpAny_bind (wpAny_field ho hd (x:=.str x t) rfl ?_)
 show wpAny _ _ (field (.ref it) 1 >>= _) _ _ s
 refine wpAny_bind (wpAny_field ho hd (x:=.int i 0) rfl ?_)
 simp only[Int.toNat_natCast,hx]
 refine wpAny_bind (wpAny_rule (wpAny_bind (wpAny_setField ho hd (by simp) (wpAny_bind (wpAny_letGo ?_)))))
 show wpAny _ _ (newExc (.type "StopIteration") [] >>= _) _ _ _
 refine wpAny_bind ?_
 simp only[newExc,newTuple]
 refine wpAny_bind (wpAny_newObj_type ?_ (by size_fits))
 refine wpAny_bind (m:=firstArgMember _ _) (wpAny_of_eq (a:=Value.none) (by first|rfl|(simp only[firstArgMember];rfl)) ?_)
 refine wpAny_newObj_type ?_ (by size_fits)
 simp only[raiseNew]
 refine wpAny_bind (wpAny_handled ?_)
 first|rw[show A.in1.handled=none from hh] | rw[hh]
 refine wpAny_bind (wpAny_pure (wpAny_throw ?_))
 exact hE _ _ (((Heap.SameBut.update ..).extBut.push _).push _) ⟨_,Heap.get?_push_size _ rfl,rfl⟩
end
abbrev IsZipF (h:Heap)(z TI TO:Addr)(f0 f1:Value):Prop :=
 h.get? z=some {cls:=.type "zip", dict:=none,data:=.fields #[f0,f1,.bool false,.ref TI,.ref TO],slots:=#[]}
structure Apart (z TI TO i1 i2:Addr):Prop where
 TIz:TI≠z
 TOz:TO≠z
 i1z:i1≠z
 i2z:i2≠z
 TITO:TI≠TO
 TIi1:TI≠i1
 TIi2:TI≠i2
 TOi1:TO≠i1
 TOi2:TO≠i2
 i12:i1≠i2
def Yields (prog:Program)(w:World)(A:Around)(it:Addr)(G:Heap→Prop)(P:Value→Prop)(S:Heap→Prop):Prop :=
 ∀ (s:Shared) (Q:Value→Shared→Prop) (E:Value→Shared→Prop),G s.heap→(∀x h' tk,P x→S h'→Heap.SameBut it s.heap h'→Q x {s with heap:=h',toks:=tk}) →
  wpAny (model prog w) A (Builtin.SmallTypes.nextOf (.ref it)) Q E s
def Ends (prog:Program)(w:World)(A:Around)(it:Addr)(G:Heap→Prop):Prop :=
 ∀ (s:Shared) (Q:Value→Shared→Prop) (E:Value→Shared→Prop),G s.heap→(∀h' e,Heap.ExtBut it s.heap h'→(∃o,h'.get? e=some o∧o.cls=.type "StopIteration")→E (.ref e) {s with heap:=h'}) →
  wpAny (model prog w) A (Builtin.SmallTypes.nextOf (.ref it)) Q E s
section
variable {prog:Program}{w:World}{A:Around}{E:Value→Shared→Prop}{s:Shared}
theorem next_item {z TI TO i1 i2:Addr}{a b f1:Value}{P1 P2:Value→Prop}{G1 G2 S1 S2:Heap→Prop}{Q:Value→Shared→Prop}(D:Apart z TI TO i1 i2)
  (hz:IsZipF s.heap z TI TO .none f1) (hTI:IsPair s.heap TI (.ref i1) (.ref i2)) (hTO:IsPair s.heap TO a b)
  (Y1:Yields prog w A i1 G1 P1 S1) (Y2:Yields prog w A i2 G2 P2 S2)
  (g1:∀h',(∀c o,c≠z→s.heap.get? c=some o→h'.get? c=some o)→G1 h') (g2:∀h',(∀c o,c≠z→c≠TO→c≠i1→s.heap.get? c=some o→h'.get? c=some o)→G2 h')
  (k1:∀h h',S1 h→(∀c o,c≠z→c≠TO→c≠i2→h.get? c=some o→h'.get? c=some o)→S1 h')
  (k2:∀h h',S2 h→(∀c o,c≠z→c≠TO→h.get? c=some o→h'.get? c=some o)→S2 h')
  (hQ:∀x y h' tk,P1 x→P2 y→IsZipF h' z TI TO (rawInt s.heap.objs.size) (.bool false)→IsPair h' TO x y→S1 h'→S2 h'→IsPair h' s.heap.objs.size x y→h'.objs.size=s.heap.objs.size+1 →
   (∀c o,c≠z→c≠TO→c≠i1→c≠i2→s.heap.get? c=some o→h'.get? c=some o)→Q (.ref s.heap.objs.size) {s with heap:=h',toks:=tk}) :
  wpAny (model prog w) A (Builtin.«zip.__next__» ⟨[.ref z],[]⟩) (fun fin s'=>∃v,fin=.done (.ret v)∧Q v s') E s:=by
 show wpAny _ _ (field (.ref z) 2 >>= _) _ _ _
 refine wpAny_bind (wpAny_field hz rfl (x:=.bool false) rfl ?_)
 show wpAny _ _ (field (.ref z) 3 >>= _) _ _ _
 refine wpAny_bind (wpAny_field hz rfl (x:=.ref TI) rfl ?_)
 refine wpAny_bind (wpAny_seqItems hTI rfl ?_)
 show wpAny _ _ (Builtin.SmallTypes.ownedTupleIsFree (.ref z) >>= _) _ _ _
 refine wpAny_bind ?_
 unfold Builtin.SmallTypes.ownedTupleIsFree
 refine wpAny_bind (wpAny_field hz rfl (x:=.none) rfl (wpAny_pure ?_))
 simp only[if_true]
 refine wpAny_bind (wpAny_rule ?_)
 refine wpAny_bind (wpAny_field hz rfl (x:=.ref TO) rfl ?_)
 refine wpAny_bind (wpAny_setField_rec hz (by simp) fun h₁ hz₁ hs₁=>?_)
 replace hz₁:IsZipF h₁ z TI TO .ellipsis f1:=hz₁
 refine wpAny_bind ?_
 simp only[List.zipIdx_cons,List.zipIdx_nil,List.forIn_cons,List.forIn_nil]
 refine wpAny_bind (wpAny_bind (wpAny_onRaise ?_))
 show wpAny _ _ (Builtin.SmallTypes.nextOf (.ref i1) >>= _) _ _ _
 refine wpAny_bind (Y1 _ _ _ (g1 _ fun c o hc e=>hs₁.extBut _ _ hc e) fun x h₂ tk₂ px st1 hs₂=>wpAny_pure ?_)
 have hTO₂:IsPair h₂ TO a b:=hs₂.extBut _ _ D.TOi1 (hs₁.extBut _ _ D.TOz hTO)
 refine wpAny_bind (wpAny_seqItems hTO₂ rfl ?_)
 refine wpAny_bind (wpAny_updateSeq_pair hTO₂ fun h₃ hTO₃ hs₃=>?_)
 replace hTO₃:IsPair h₃ TO x b:=hTO₃
 refine wpAny_bind (wpAny_letGo (wpAny_pure ?_))
 refine wpAny_bind (wpAny_bind (wpAny_onRaise ?_))
 show wpAny _ _ (Builtin.SmallTypes.nextOf (.ref i2) >>= _) _ _ _
 refine wpAny_bind (Y2 _ _ _ (g2 _ fun c o c1 c2 c3 e=>hs₃.extBut _ _ c2 (hs₂.extBut _ _ c3 (hs₁.extBut _ _ c1 e))) fun y h₄ tk₄ py st2 hs₄=>wpAny_pure ?_)
 have hTO₄:IsPair h₄ TO x b:=hs₄.extBut _ _ D.TOi2 hTO₃
 refine wpAny_bind (wpAny_seqItems hTO₄ rfl ?_)
 refine wpAny_bind (wpAny_updateSeq_pair hTO₄ fun h₅ hTO₅ hs₅=>?_)
 replace hTO₅:IsPair h₅ TO x y:=hTO₅
 refine wpAny_bind (wpAny_letGo (wpAny_pure (wpAny_pure ?_)))
 refine wpAny_bind (wpAny_seqItems hTO₅ rfl ?_)
 refine wpAny_bind (wpAny_newTuple ?_)
 have hsz:h₅.objs.size=s.heap.objs.size:=by rw[hs₅.1,hs₄.1,hs₃.1,hs₂.1,hs₁.1]
 have hz₅:IsZipF h₅ z TI TO .ellipsis f1:=hs₅.extBut _ _ D.TOz.symm (hs₄.extBut _ _ D.i2z.symm (hs₃.extBut _ _ D.TOz.symm (hs₂.extBut _ _ D.i1z.symm hz₁)))
 have hk₅:∀c o,c≠z→c≠TO→c≠i1→c≠i2→s.heap.get? c=some o→h₅.get? c=some o:=fun c o c1 c2 c3 c4 e =>
  hs₅.extBut _ _ c2 (hs₄.extBut _ _ c4 (hs₃.extBut _ _ c2 (hs₂.extBut _ _ c3 (hs₁.extBut _ _ c1 e))))
 have hzlt:z<h₅.objs.size:=Heap.lt_size hz₅
 show wpAny _ _ (Builtin.SmallTypes.ownedTupleHandOut (.ref z) (.ref h₅.objs.size) >>= _) _ _ _
 refine wpAny_bind ?_
 unfold Builtin.SmallTypes.ownedTupleHandOut
 have hz₆:IsZipF (h₅.push {cls:=.type "tuple", data:=.seq #[x,y]}) z TI TO .ellipsis f1:=Heap.get?_push_of_some _ hz₅
 refine wpAny_bind (wpAny_setField_rec hz₆ (by simp) fun h₇ hz₇ hs₇=>?_)
 replace hz₇:IsZipF h₇ z TI TO (rawInt h₅.objs.size) f1:=hz₇
 refine wpAny_setField_rec hz₇ (by simp) fun h₈ hz₈ hs₈=>?_
 replace hz₈:IsZipF h₈ z TI TO (rawInt h₅.objs.size) (.bool false):=hz₈
 have up:∀c o,c≠z→h₅.get? c=some o→h₈.get? c=some o:=fun c o c1 e=>hs₈.extBut _ _ c1 (hs₇.extBut _ _ c1 (Heap.get?_push_of_some _ e))
 have hT₈:IsPair h₈ h₅.objs.size x y:=hs₈.extBut _ _ (Nat.ne_of_gt hzlt) (hs₇.extBut _ _ (Nat.ne_of_gt hzlt) (Heap.get?_push_size _ rfl))
 have hz8:h₈.objs.size=h₅.objs.size+1:=by rw[hs₈.1,hs₇.1,Heap.size_push]
 have q1:S1 h₈:=k1 h₂ h₈ st1 fun c o c1 c2 c4 e=>up c o c1 (hs₅.extBut _ _ c2 (hs₄.extBut _ _ c4 (hs₃.extBut _ _ c2 e)))
 have q2:S2 h₈:=k2 h₄ h₈ st2 fun c o c1 c2 e=>up c o c1 (hs₅.extBut _ _ c2 e)
 rw[hsz] at hz₈ hT₈ hz8
 refine wpAny_pure ⟨_,rfl,?_⟩
 show Q (.ref h₅.objs.size) _
 rw[hsz]
 exact hQ x y h₈ _ px py hz₈ (up _ _ D.TOz hTO₅) q1 q2 hT₈ hz8 fun c o c1 c2 c3 c4 e=>up c o c1 (hk₅ c o c1 c2 c3 c4 e)
theorem next_end {z TI TO i1 i2:Addr}{a b f1:Value}{P1:Value→Prop}{G1 G2 S1:Heap→Prop}{Q:Fin→Shared→Prop}(D:Apart z TI TO i1 i2)
  (hz:IsZipF s.heap z TI TO .none f1) (hTI:IsPair s.heap TI (.ref i1) (.ref i2)) (hTO:IsPair s.heap TO a b)
  (hend:Ends prog w A i1 G1∨(Yields prog w A i1 G1 P1 S1∧Ends prog w A i2 G2))
  (g1:∀h',(∀c o,c≠z→s.heap.get? c=some o→h'.get? c=some o)→G1 h') (g2:∀h',(∀c o,c≠z→c≠TO→c≠i1→s.heap.get? c=some o→h'.get? c=some o)→G2 h')
  (hE:∀h' tk e,(∀c o,c≠z→c≠TO→c≠i1→c≠i2→s.heap.get? c=some o→h'.get? c=some o)→(∃o,h'.get? e=some o∧o.cls=.type "StopIteration")→E (.ref e) {s with heap:=h',toks:=tk}) :
  wpAny (model prog w) A (Builtin.«zip.__next__» ⟨[.ref z],[]⟩) Q E s:=by
 show wpAny _ _ (field (.ref z) 2 >>= _) _ _ _
 refine wpAny_bind (wpAny_field hz rfl (x:=.bool false) rfl ?_)
 show wpAny _ _ (field (.ref z) 3 >>= _) _ _ _
 refine wpAny_bind (wpAny_field hz rfl (x:=.ref TI) rfl ?_)
 refine wpAny_bind (wpAny_seqItems hTI rfl ?_)
 show wpAny _ _ (Builtin.SmallTypes.ownedTupleIsFree (.ref z) >>= _) _ _ _
 refine wpAny_bind ?_
 unfold Builtin.SmallTypes.ownedTupleIsFree
 refine wpAny_bind (wpAny_field hz rfl (x:=.none) rfl (wpAny_pure ?_))
 simp only[if_true]
 refine wpAny_bind (wpAny_rule ?_)
 refine wpAny_bind (wpAny_field hz rfl (x:=.ref TO) rfl ?_)
 refine wpAny_bind (wpAny_setField_rec hz (by simp) fun h₁ hz₁ hs₁=>?_)
 replace hz₁:IsZipF h₁ z TI TO .ellipsis f1:=hz₁
 refine wpAny_bind ?_
 simp only[List.zipIdx_cons,List.zipIdx_nil,List.forIn_cons,List.forIn_nil]
 refine wpAny_bind (wpAny_bind (wpAny_onRaise ?_))
 show wpAny _ _ (Builtin.SmallTypes.nextOf (.ref i1) >>= _) _ _ _
 rcases hend with E1|⟨Y1,E2⟩
 ·refine wpAny_bind (E1 _ _ _ (g1 _ fun c o hc e=>hs₁.extBut _ _ hc e) fun h₂ e hs₂ he=>?_)
  obtain⟨oe,hoe,hce⟩:=he
  have hz₂:IsZipF h₂ z TI TO .ellipsis f1:=hs₂ _ _ D.i1z.symm hz₁
  have hez:e≠z:=fun x=>by subst x;rw[hz₂] at hoe;cases hoe;simp at hce
  refine wpAny_setField_rec hz₂ (by simp) fun h₃ _ hs₃=>hE h₃ _ e (fun c o c1 _ c3 _ x=>hs₃.extBut _ _ c1 (hs₂ _ _ c3 (hs₁.extBut _ _ c1 x))) ⟨oe,hs₃.extBut _ _ hez hoe,hce⟩
 ·refine wpAny_bind (Y1 _ _ _ (g1 _ fun c o hc e=>hs₁.extBut _ _ hc e) fun x h₂ tk₂ px st1 hs₂=>wpAny_pure ?_)
  have hTO₂:IsPair h₂ TO a b:=hs₂.extBut _ _ D.TOi1 (hs₁.extBut _ _ D.TOz hTO)
  refine wpAny_bind (wpAny_seqItems hTO₂ rfl ?_)
  refine wpAny_bind (wpAny_updateSeq_pair hTO₂ fun h₃ hTO₃ hs₃=>?_)
  refine wpAny_bind (wpAny_letGo (wpAny_pure ?_))
  refine wpAny_bind (wpAny_bind (wpAny_onRaise ?_))
  show wpAny _ _ (Builtin.SmallTypes.nextOf (.ref i2) >>= _) _ _ _
  refine wpAny_bind (E2 _ _ _ (g2 _ fun c o c1 c2 c3 e=>hs₃.extBut _ _ c2 (hs₂.extBut _ _ c3 (hs₁.extBut _ _ c1 e))) fun h₄ e hs₄ he=>?_)
  obtain⟨oe,hoe,hce⟩:=he
  have hz₄:IsZipF h₄ z TI TO .ellipsis f1:=hs₄ _ _ D.i2z.symm (hs₃.extBut _ _ D.TOz.symm (hs₂.extBut _ _ D.i1z.symm hz₁))
  have hez:e≠z:=fun x=>by subst x;rw[hz₄] at hoe;cases hoe;simp at hce
  refine wpAny_setField_rec hz₄ (by simp) fun h₅ _ hs₅=>hE h₅ _ e (fun c o c1 c2 c3 c4 x=>hs₅.extBut _ _ c1 (hs₄ _ _ c4 (hs₃.extBut _ _ c2 (hs₂.extBut _ _ c3 (hs₁.extBut _ _ c1 x))))) ⟨oe,hs₅.extBut _ _ hez hoe,hce⟩
end
end Zp
namespace Zp
open PySem
section
variable {prog:Program}{w:World}{A:Around}{E:Value→Shared→Prop}{s:Shared}
theorem alive {a:Addr}{o:Obj}{Q:Option Obj→Shared→Prop}(ho:s.heap.get? a=some o)(h:Q (some o) s):wpAny (model prog w) A (loadIfAlive a) Q E s:=by
 have h':Q (s.heap.get? a) s:=by rw[ho];exact h
 exact fun _ _ _=>h'
theorem zdj {z TI TO i1 i2 T:Addr}{oT:Obj}{P1 P2:Value→Prop}{fb:Bool}{G1 G2 S1 S2:Heap→Prop}{Q:Value→Shared→Prop}(D:Apart z TI TO i1 i2)
  (hz:IsZipF s.heap z TI TO (rawInt T) (.bool fb)) (hTI:IsPair s.heap TI (.ref i1) (.ref i2)) (hT:s.heap.get? T=some oT)
  (Y1:Yields prog w A i1 G1 P1 S1) (Y2:Yields prog w A i2 G2 P2 S2)
  (g1:∀h',(∀c o,c≠z→s.heap.get? c=some o→h'.get? c=some o)→G1 h') (g2:∀h',(∀c o,c≠z→c≠i1→s.heap.get? c=some o→h'.get? c=some o)→G2 h')
  (k1:∀h h',S1 h→(∀c o,c≠i2→h.get? c=some o→h'.get? c=some o)→S1 h')
  (k2:∀h h',S2 h→(∀c o,h.get? c=some o→h'.get? c=some o)→S2 h')
  (hQ:∀x y h' tk,P1 x→P2 y→IsZipF h' z TI TO (rawInt T) (.bool true)→S1 h'→S2 h'→IsPair h' s.heap.objs.size x y→h'.objs.size=s.heap.objs.size+1 →
   (∀c o,c≠z→c≠i1→c≠i2→s.heap.get? c=some o→h'.get? c=some o)→Q (.ref s.heap.objs.size) {s with heap:=h',toks:=tk}) :
  wpAny (model prog w) A (Builtin.«zip.__next__» ⟨[.ref z],[]⟩) (fun fin s'=>∃v,fin=.done (.ret v)∧Q v s') E s:=by
 show wpAny _ _ (field (.ref z) 2 >>= _) _ _ _
 refine wpAny_bind (wpAny_field hz rfl (x:=.bool false) rfl ?_)
 show wpAny _ _ (field (.ref z) 3 >>= _) _ _ _
 refine wpAny_bind (wpAny_field hz rfl (x:=.ref TI) rfl ?_)
 refine wpAny_bind (wpAny_seqItems hTI rfl ?_)
 show wpAny _ _ (Builtin.SmallTypes.ownedTupleIsFree (.ref z) >>= _) _ _ _
 refine wpAny_bind ?_
 unfold Builtin.SmallTypes.ownedTupleIsFree
 refine wpAny_bind (wpAny_field hz rfl (x:=rawInt T) rfl ?_)
 show wpAny _ _ (loadIfAlive ((T:Int).toNat) >>= _) _ _ _
 rw[Int.toNat_natCast]
 refine wpAny_bind (alive hT ?_)
 simp only[Option.isNone_some,Bool.false_eq_true,if_false]
 refine wpAny_bind (wpAny_field hz rfl (x:=.bool fb) rfl ?_)
 cases fb with
 | true =>
  rw[if_neg (show ¬((Value.bool true != Value.bool true)=true) from Bool.false_ne_true)]
  refine wpAny_pure ?_
  simp only[Bool.false_eq_true,if_false]
  have HZ:=hz
  have HS:Heap.SameBut z s.heap s.heap:=Heap.SameBut.refl _ _
  rw[← Array.forIn_toList]
  simp only[List.forIn_cons,List.forIn_nil]
  refine wpAny_bind (wpAny_bind (wpAny_bind (wpAny_holding ?_)))
  show wpAny _ _ (Builtin.SmallTypes.nextOf (.ref i1) >>= _) _ _ _
  refine wpAny_bind (Y1 _ _ _ (g1 _ fun c o hc e=>HS.extBut _ _ hc e) fun x h₂ tk₂ px st1 hs₂=>wpAny_pure (wpAny_pure ?_))
  refine wpAny_bind (wpAny_bind (wpAny_holding ?_))
  show wpAny _ _ (Builtin.SmallTypes.nextOf (.ref i2) >>= _) _ _ _
  refine wpAny_bind (Y2 _ _ _ (g2 _ fun c o c1 c3 e=>hs₂.extBut _ _ c3 (HS.extBut _ _ c1 e)) fun y h₄ tk₄ py st2 hs₄=>wpAny_pure (wpAny_pure (wpAny_pure ?_)))
  refine wpAny_bind (wpAny_newTuple ?_ (by show 2≤sizeLine;decide))
  have hsz:h₄.objs.size=s.heap.objs.size:=by rw[hs₄.1,hs₂.1,HS.1]
  have hz₄:IsZipF h₄ z TI TO (rawInt T) (.bool true):=hs₄.extBut _ _ D.i2z.symm (hs₂.extBut _ _ D.i1z.symm HZ)
  refine wpAny_pure ⟨_,rfl,?_⟩
  show Q (.ref h₄.objs.size) _
  rw[hsz]
  have hp:IsPair (h₄.push {cls:=.type "tuple", data:=.seq #[x,y]}) s.heap.objs.size x y:=by rw[← hsz];exact Heap.get?_push_size _ rfl
  exact hQ x y _ _ px py (Heap.get?_push_of_some _ hz₄) (k1 h₂ _ st1 fun c o hc e=>Heap.get?_push_of_some _ (hs₄.extBut _ _ hc e)) (k2 h₄ _ st2 fun c o e=>Heap.get?_push_of_some _ e) hp (by rw[Heap.size_push,hsz])
   fun c o c1 c3 c4 e=>Heap.get?_push_of_some _ (hs₄.extBut _ _ c4 (hs₂.extBut _ _ c3 (HS.extBut _ _ c1 e)))
 | false =>
  rw[if_pos (show(Value.bool false != Value.bool true)=true from rfl)]
  refine wpAny_bind (wpAny_setField_rec hz (by simp) fun h₁ hz₁ HS=>?_)
  replace HS:Heap.SameBut z s.heap h₁:=HS
  have HZ:IsZipF h₁ z TI TO (rawInt T) (.bool true):=hz₁
  refine wpAny_pure ?_
  simp only[Bool.false_eq_true,if_false]
  rw[← Array.forIn_toList]
  simp only[List.forIn_cons,List.forIn_nil]
  refine wpAny_bind (wpAny_bind (wpAny_bind (wpAny_holding ?_)))
  show wpAny _ _ (Builtin.SmallTypes.nextOf (.ref i1) >>= _) _ _ _
  refine wpAny_bind (Y1 _ _ _ (g1 _ fun c o hc e=>HS.extBut _ _ hc e) fun x h₂ tk₂ px st1 hs₂=>wpAny_pure (wpAny_pure ?_))
  refine wpAny_bind (wpAny_bind (wpAny_holding ?_))
  show wpAny _ _ (Builtin.SmallTypes.nextOf (.ref i2) >>= _) _ _ _
  refine wpAny_bind (Y2 _ _ _ (g2 _ fun c o c1 c3 e=>hs₂.extBut _ _ c3 (HS.extBut _ _ c1 e)) fun y h₄ tk₄ py st2 hs₄=>wpAny_pure (wpAny_pure (wpAny_pure ?_)))
  refine wpAny_bind (wpAny_newTuple ?_ (by show 2≤sizeLine;decide))
  have hsz:h₄.objs.size=s.heap.objs.size:=by rw[hs₄.1,hs₂.1,HS.1]
  have hz₄:IsZipF h₄ z TI TO (rawInt T) (.bool true):=hs₄.extBut _ _ D.i2z.symm (hs₂.extBut _ _ D.i1z.symm HZ)
  refine wpAny_pure ⟨_,rfl,?_⟩
  show Q (.ref h₄.objs.size) _
  rw[hsz]
  have hp:IsPair (h₄.push {cls:=.type "tuple", data:=.seq #[x,y]}) s.heap.objs.size x y:=by rw[← hsz];exact Heap.get?_push_size _ rfl
  exact hQ x y _ _ px py (Heap.get?_push_of_some _ hz₄) (k1 h₂ _ st1 fun c o hc e=>Heap.get?_push_of_some _ (hs₄.extBut _ _ hc e)) (k2 h₄ _ st2 fun c o e=>Heap.get?_push_of_some _ e) hp (by rw[Heap.size_push,hsz])
   fun c o c1 c3 c4 e=>Heap.get?_push_of_some _ (hs₄.extBut _ _ c4 (hs₂.extBut _ _ c3 (HS.extBut _ _ c1 e)))
theorem end_busy {z TI TO i1 i2 T:Addr}{oT:Obj}{P1:Value→Prop}{fb:Bool}{G1 G2 S1:Heap→Prop}{Q:Fin→Shared→Prop}(D:Apart z TI TO i1 i2)
  (hz:IsZipF s.heap z TI TO (rawInt T) (.bool fb)) (hTI:IsPair s.heap TI (.ref i1) (.ref i2)) (hT:s.heap.get? T=some oT)
  (hend:Ends prog w A i1 G1∨(Yields prog w A i1 G1 P1 S1∧Ends prog w A i2 G2))
  (g1:∀h',(∀c o,c≠z→s.heap.get? c=some o→h'.get? c=some o)→G1 h') (g2:∀h',(∀c o,c≠z→c≠i1→s.heap.get? c=some o→h'.get? c=some o)→G2 h')
  (hE:∀h' tk e,(∀c o,c≠z→c≠i1→c≠i2→s.heap.get? c=some o→h'.get? c=some o)→(∃o,h'.get? e=some o∧o.cls=.type "StopIteration")→E (.ref e) {s with heap:=h',toks:=tk}) :
  wpAny (model prog w) A (Builtin.«zip.__next__» ⟨[.ref z],[]⟩) Q E s:=by
 show wpAny _ _ (field (.ref z) 2 >>= _) _ _ _
 refine wpAny_bind (wpAny_field hz rfl (x:=.bool false) rfl ?_)
 show wpAny _ _ (field (.ref z) 3 >>= _) _ _ _
 refine wpAny_bind (wpAny_field hz rfl (x:=.ref TI) rfl ?_)
 refine wpAny_bind (wpAny_seqItems hTI rfl ?_)
 show wpAny _ _ (Builtin.SmallTypes.ownedTupleIsFree (.ref z) >>= _) _ _ _
 refine wpAny_bind ?_
 unfold Builtin.SmallTypes.ownedTupleIsFree
 refine wpAny_bind (wpAny_field hz rfl (x:=rawInt T) rfl ?_)
 show wpAny _ _ (loadIfAlive ((T:Int).toNat) >>= _) _ _ _
 rw[Int.toNat_natCast]
 refine wpAny_bind (alive hT ?_)
 simp only[Option.isNone_some,Bool.false_eq_true,if_false]
 refine wpAny_bind (wpAny_field hz rfl (x:=.bool fb) rfl ?_)
 cases fb with
 | true =>
  rw[if_neg (show ¬((Value.bool true != Value.bool true)=true) from Bool.false_ne_true)]
  refine wpAny_pure ?_
  simp only[Bool.false_eq_true,if_false]
  have HS:Heap.SameBut z s.heap s.heap:=Heap.SameBut.refl _ _
  rw[← Array.forIn_toList]
  simp only[List.forIn_cons,List.forIn_nil]
  refine wpAny_bind (wpAny_bind (wpAny_bind (wpAny_holding ?_)))
  show wpAny _ _ (Builtin.SmallTypes.nextOf (.ref i1) >>= _) _ _ _
  rcases hend with E1|⟨Y1,E2⟩
  ·refine wpAny_bind (E1 _ _ _ (g1 _ fun c o hc e=>HS.extBut _ _ hc e) fun h₂ e hs₂ he=>?_)
   exact hE h₂ _ e (fun c o c1 c3 _ x=>hs₂ _ _ c3 (HS.extBut _ _ c1 x)) he
  ·refine wpAny_bind (Y1 _ _ _ (g1 _ fun c o hc e=>HS.extBut _ _ hc e) fun x h₂ tk₂ px st1 hs₂=>wpAny_pure (wpAny_pure ?_))
   refine wpAny_bind (wpAny_bind (wpAny_holding ?_))
   show wpAny _ _ (Builtin.SmallTypes.nextOf (.ref i2) >>= _) _ _ _
   refine wpAny_bind (E2 _ _ _ (g2 _ fun c o c1 c3 e=>hs₂.extBut _ _ c3 (HS.extBut _ _ c1 e)) fun h₄ e hs₄ he=>?_)
   exact hE h₄ _ e (fun c o c1 c3 c4 x=>hs₄ _ _ c4 (hs₂.extBut _ _ c3 (HS.extBut _ _ c1 x))) he
 | false =>
  rw[if_pos (show(Value.bool false != Value.bool true)=true from rfl)]
  refine wpAny_bind (wpAny_setField_rec hz (by simp) fun h₁ hz₁ HS=>?_)
  replace HS:Heap.SameBut z s.heap h₁:=HS
  refine wpAny_pure ?_
  simp only[Bool.false_eq_true,if_false]
  rw[← Array.forIn_toList]
  simp only[List.forIn_cons,List.forIn_nil]
  refine wpAny_bind (wpAny_bind (wpAny_bind (wpAny_holding ?_)))
  show wpAny _ _ (Builtin.SmallTypes.nextOf (.ref i1) >>= _) _ _ _
  rcases hend with E1|⟨Y1,E2⟩
  ·refine wpAny_bind (E1 _ _ _ (g1 _ fun c o hc e=>HS.extBut _ _ hc e) fun h₂ e hs₂ he=>?_)
   exact hE h₂ _ e (fun c o c1 c3 _ x=>hs₂ _ _ c3 (HS.extBut _ _ c1 x)) he
  ·refine wpAny_bind (Y1 _ _ _ (g1 _ fun c o hc e=>HS.extBut _ _ hc e) fun x h₂ tk₂ px st1 hs₂=>wpAny_pure (wpAny_pure ?_))
   refine wpAny_bind (wpAny_bind (wpAny_holding ?_))
   show wpAny _ _ (Builtin.SmallTypes.nextOf (.ref i2) >>= _) _ _ _
   refine wpAny_bind (E2 _ _ _ (g2 _ fun c o c1 c3 e=>hs₂.extBut _ _ c3 (HS.extBut _ _ c1 e)) fun h₄ e hs₄ he=>?_)
   exact hE h₄ _ e (fun c o c1 c3 c4 x=>hs₄ _ _ c4 (hs₂.extBut _ _ c3 (HS.extBut _ _ c1 x))) he
end
end Zp
set_option maxHeartbeats 2000000
namespace Zp
open PySem
section
variable {prog:Program}{w:World}{A:Around}
theorem yields_tuple {it t:Addr}{i:Nat}{items:Array Value}{x:Value}(hne:t≠it)(hx:items[i]? = some x) :
  Yields prog w A it (fun h=>h.IsTupleIter it t i∧h.IsTuple t items) (fun v=>v=x) (fun h=>h.IsTupleIter it t (i+1)∧h.IsTuple t items) :=
 fun s Q E g hQ=>zaj g.1 g.2 hx fun h' st sb=>hQ _ h' s.toks rfl ⟨st,g.2.extBut sb.extBut hne⟩ sb
theorem ends_tuple {it t:Addr}{i:Nat}{items:Array Value}(hh:A.handled=none)(hx:items[i]? = none) :
  Ends prog w A it (fun h=>h.IsTupleIter it t i∧h.IsTuple t items) :=
 fun s Q E g hE=>zaG hh g.1 g.2 hx hE
theorem yields_ascii {it:Addr}{x:Str}{t:Tok}{i c:Nat}(hx:x.cps[i]? = some c) :
  Yields prog w A it (fun h=>h.IsStrIter it "str_ascii_iterator" x t i) (fun v=>∃u,v=.str ⟨#[c]⟩ u) (fun h=>h.IsStrIter it "str_ascii_iterator" x t (i+1)) :=
 fun s Q E g hQ=>zae g hx fun h' st sb=>hQ _ h' _ ⟨_,rfl⟩ st sb
theorem ends_ascii {it:Addr}{x:Str}{t:Tok}{i:Nat}(hh:A.handled=none)(hx:x.cps[i]? = none) :
  Ends prog w A it (fun h=>h.IsStrIter it "str_ascii_iterator" x t i) :=
 fun s Q E g hE=>zaA hh g hx hE
end
section
variable {prog:Program}{w:World}{A:Around}{E:Value→Shared→Prop}{s:Shared}
abbrev zH2 (h:Heap)(o1 o2:Obj):Heap:=(h.push o1).push o2
abbrev zH3 (h:Heap)(o1 o2:Obj):Heap:=(zH2 h o1 o2).push {cls:=.type "tuple", data:=.seq #[.ref h.objs.size,.ref (h.push o1).objs.size]}
abbrev zH4 (h:Heap)(o1 o2:Obj):Heap:=(zH3 h o1 o2).push {cls:=.type "tuple", data:=.seq #[.none,.none]}
abbrev zH5 (h:Heap)(o1 o2:Obj):Heap:=(zH4 h o1 o2).push {cls:=.type "zip", data:=.fields #[.none,.bool false,.bool false,.ref (zH2 h o1 o2).objs.size,.ref (zH3 h o1 o2).objs.size]}
abbrev tIter (t:Addr):Obj:={cls:=.type "tuple_iterator", data:=.fields #[.ref t,.int 0 0]}
abbrev sIter (x:Str)(t:Tok):Obj:={cls:=.type "str_ascii_iterator", data:=.fields #[.str x t,.int 0 0]}
theorem meets_st_aux {prog:Program}{w:World}{A:Around}{a b:Value}{s:Shared}{h1 h2:Heap}{i1 i2:Addr}{E:Value→Shared→Prop}{Q:Fin→Shared→Prop}
  (p1:∀(Q:Value→Shared→Prop) (E:Value→Shared→Prop),Q (.ref i1) {s with heap:=h1}→wpAny (model prog w) A (pyIter a) Q E s)
  (p2:∀(Q:Value→Shared→Prop) (E:Value→Shared→Prop),Q (.ref i2) {s with heap:=h2}→wpAny (model prog w) A (pyIter b) Q E {s with heap:=h1})
  (hQ:Q (.done (.ret (.ref (h2.objs.size+2)))) {s with heap:=((h2.push {cls:=.type "tuple", data:=.seq #[.ref i1,.ref i2]}).push {cls:=.type "tuple", data:=.seq #[.none,.none]}).push {cls:=.type "zip", data:=.fields #[.none,.bool false,.bool false,.ref h2.objs.size,.ref (h2.objs.size+1)]} }) :
  wpAny (model prog w) A (Builtin.«zip.__new__» ⟨[.type "zip", a,b],[]⟩) Q E s:=by
 obtain⟨hp,g,d,tk,os⟩:=s
 have hsub:=sub_zip
 have z1:(h2.push {cls:=.type "tuple", data:=.seq #[.ref i1,.ref i2]}).objs.size=h2.objs.size+1:=Heap.size_push ..
 have z2:((h2.push {cls:=.type "tuple", data:=.seq #[.ref i1,.ref i2]}).push {cls:=.type "tuple", data:=.seq #[.none,.none]}).objs.size=h2.objs.size+2:=by rw[Heap.size_push,z1]
 rw[← z2,← z1] at hQ
 wp_walk using p1 _ _,p2 _ _
 exact hQ
def Made5 (h h':Heap)(o1 o2:Obj):Prop :=
 IsZipF h' (h.objs.size+4) (h.objs.size+2) (h.objs.size+3) .none (.bool false)∧IsPair h' (h.objs.size+2) (.ref h.objs.size) (.ref (h.objs.size+1)) ∧
  IsPair h' (h.objs.size+3) .none .none∧h'.get? h.objs.size=some o1∧h'.get? (h.objs.size+1)=some o2∧h'.objs.size=h.objs.size+5∧∀c o,h.get? c=some o→h'.get? c=some o
theorem made5 (h:Heap)(o1 o2:Obj)(f1:o1.isFreed=false)(f2:o2.isFreed=false):Made5 h (zH5 h o1 o2) o1 o2∧(zH4 h o1 o2).objs.size=h.objs.size+4:=by
 have z1:(h.push o1).objs.size=h.objs.size+1:=Heap.size_push ..
 have z2:(zH2 h o1 o2).objs.size=h.objs.size+2:=by rw[Heap.size_push,z1]
 have z3:(zH3 h o1 o2).objs.size=h.objs.size+3:=by rw[Heap.size_push,z2]
 have z4:(zH4 h o1 o2).objs.size=h.objs.size+4:=by rw[Heap.size_push,z3]
 have z5:(zH5 h o1 o2).objs.size=h.objs.size+5:=by rw[Heap.size_push,z4]
 have g5:(zH5 h o1 o2).get? (zH4 h o1 o2).objs.size=some _:=Heap.get?_push_size _ rfl
 have g4:(zH5 h o1 o2).get? (zH3 h o1 o2).objs.size=some _:=Heap.get?_push_of_some _ (Heap.get?_push_size _ rfl)
 have g3:(zH5 h o1 o2).get? (zH2 h o1 o2).objs.size=some _:=Heap.get?_push_of_some _ (Heap.get?_push_of_some _ (Heap.get?_push_size _ rfl))
 have g2:(zH5 h o1 o2).get? (h.push o1).objs.size=some o2:=Heap.get?_push_of_some _ (Heap.get?_push_of_some _ (Heap.get?_push_of_some _ (Heap.get?_push_size _ f2)))
 have g1:(zH5 h o1 o2).get? h.objs.size=some o1:=Heap.get?_push_of_some _ (Heap.get?_push_of_some _ (Heap.get?_push_of_some _ (Heap.get?_push_of_some _ (Heap.get?_push_size _ f1))))
 rw[z2,z3,z4] at g5
 rw[z1,z2] at g3
 rw[z3] at g4
 rw[z1] at g2
 exact⟨⟨g5,g3,g4,g1,g2,z5,fun c o x=>Heap.get?_push_of_some _ (Heap.get?_push_of_some _ (Heap.get?_push_of_some _ (Heap.get?_push_of_some _ (Heap.get?_push_of_some _ x))))⟩,z4⟩
end
end Zp
namespace Zp
open PySem
theorem zaw:typeLookup (.type "zip") "__getattr__" = pure none:=by rw[typeLookup_type,builtinLookup_eq_fast];kernel_rfl
theorem zcd:typeLookup (.type "zip") "keys" = pure none:=by rw[typeLookup_type,builtinLookup_eq_fast];kernel_rfl
theorem qt:entryFor table "zip.__getattribute__" = some Builtin.«object.__getattribute__» :=
 entryFor_alias (id' := "object.__getattribute__") (by kernel_rfl) (by decide +kernel) (by decide +kernel) (by kernel_rfl)
theorem meets_miss (a:Addr)(vs:Array Value)(name:Str)(u:Tok)(hmiss:typeLookup (.type "zip") name=pure none)(hname:(["__module__", "__name__", "__qualname__", "__doc__", "__annotations__"]:List Str).contains name=false)(hsz:name.length+100≤sizeLine:=by size_fits) :
  Meets (Builtin.«object.__getattribute__» ⟨[.ref a,.str name u],[]⟩) (fun A R s=>s.heap.get? a=some {cls:=.type "zip", dict:=none,data:=.fields vs,slots:=#[]}∧raisesAttr (.ref a) name A R s) :=
 Meets.of_wp fun prog w A R s hs=>by
  obtain⟨hp,g,d,tk,os⟩:=s
  obtain⟨hx,hs⟩:=hs
  have hT:(⟨hp,g,d,tk,os⟩:Shared).TypeIs (.ref a) "zip" := ⟨_,hx,rfl⟩
  unfold Builtin.«object.__getattribute__»
  repeat (any_goals (first|assumption|wp_step))
  simp only[hname,Bool.false_eq_true,if_false]
  repeat (any_goals (first|assumption|wp_step))
  exact wpAny_raiseAttrError hs.1 hs.2 (attrMsg_fits (by decide +kernel) hsz)
theorem no_keys {prog:Program}{w:World}{A:Around}{E:Value→Shared→Prop}{s:Shared}{a:Addr}{vs:Array Value}{Q:Option Value→Shared→Prop}
  (hx:s.heap.get? a=some {cls:=.type "zip", dict:=none,data:=.fields vs,slots:=#[]}) (hA:A.handled=none)
  (h:∀h' tk,(∀b o,s.heap.get? b=some o→h'.get? b=some o)→Q none {s with heap:=h',toks:=tk}) :
  wpAny (model prog w) A (getAttr? (.ref a) "keys") Q E s:=by
 obtain⟨hp,g,d,tk,os⟩:=s
 have hT:∀tk',(⟨hp,g,d,tk',os⟩:Shared).TypeIs (.ref a) "zip" := fun _=>⟨_,hx,rfl⟩
 have f1:=sub_AttributeError
 have f3:=F.slot_zip_getattribute.lookup
 have f4:=F.slot_zip_getattribute.bind (.ref a)
 have f5:=zaw
 unfold getAttr? getAttrBy? getAttrBy
 repeat (any_goals (first|assumption|exact hT _|((with_reducible show wpAny _ _ (call (Value.builtin "zip.__getattribute__") _ _) _ _ _);refine call_meets F.slot_zip_getattribute (hT _) qt (F.args_zip_getattribute_2 _ _) (meets_miss a vs "keys" _ zcd (by decide +kernel) (by decide +kernel)) ⟨hx,hA,fun h' tk' e hx'=>?_⟩)|wp_step))
 obtain⟨t',u',he⟩:=hx'.there
 show wpAny _ _ (getattributeRaised _ _ _ _ _ _ _) _ _ _
 unfold getattributeRaised hookBehind onTheHeap hookOrError attributeErrorLeaves
 repeat (any_goals (first|assumption|wp_step))
 exact h _ _ hx'.keeps
structure ZSt (h:Heap)(z TI TO i1 i2 tp d:Addr)(x:Str)(t:Tok)(ys:Array Value)(i:Nat):Prop where
 zip:(∃f1,IsZipF h z TI TO .none (.bool f1))∨∃(T:Addr) (oT:Obj) (fb:Bool),IsZipF h z TI TO (rawInt T) (.bool fb)∧h.get? T=some oT∧T≠z∧T≠TO∧T≠i1∧T≠i2∧T≠d
 ti:IsPair h TI (.ref i1) (.ref i2)
 to:∃a b,IsPair h TO a b
 s1:h.IsStrIter i1 "str_ascii_iterator" x t i
 s2:h.IsTupleIter i2 tp i∧h.IsTuple tp ys
structure ZAp (z TI TO i1 i2 tp d:Addr):Prop where
 D:Apart z TI TO i1 i2
 tz:tp≠z
 tO:tp≠TO
 t1:tp≠i1
 t2:tp≠i2
 dz:d≠z
 dI:d≠TI
 dO:d≠TO
 d1:d≠i1
 d2:d≠i2
 dt:d≠tp
theorem ZSt.dict {h h':Heap}{z TI TO i1 i2 tp d:Addr}{x:Str}{t:Tok}{ys:Array Value}{i:Nat}(Z:ZSt h z TI TO i1 i2 tp d x t ys i)(Y:ZAp z TI TO i1 i2 tp d)
  (k:∀c o,c≠d→h.get? c=some o→h'.get? c=some o):ZSt h' z TI TO i1 i2 tp d x t ys i:=by
 obtain⟨zp,ti,⟨a,b,to⟩,⟨o1,e1,r1⟩,⟨o2,e2,r2⟩,o3,e3,r3⟩:=Z
 refine⟨?_,k _ _ (Ne.symm Y.dI) ti,⟨a,b,k _ _ (Ne.symm Y.dO) to⟩,⟨o1,k _ _ (Ne.symm Y.d1) e1,r1⟩,⟨o2,k _ _ (Ne.symm Y.d2) e2,r2⟩,o3,k _ _ (Ne.symm Y.dt) e3,r3⟩
 rcases zp with⟨f1,hz⟩|⟨T,oT,fb,hz,hT,n1,n2,n3,n4,n5⟩
 ·exact .inl ⟨f1,k _ _ (Ne.symm Y.dz) hz⟩
 ·exact .inr ⟨T,oT,fb,k _ _ (Ne.symm Y.dz) hz,k _ _ n5 hT,n1,n2,n3,n4,n5⟩
section
variable {prog:Program}{w:World}{A:Around}{E:Value→Shared→Prop}{s:Shared}
theorem ZSt.next {z TI TO i1 i2 tp d:Addr}{x:Str}{t:Tok}{ys:Array Value}{i c:Nat}{y:Value}{Q:Option Value→Shared→Prop}(Z:ZSt s.heap z TI TO i1 i2 tp d x t ys i)(Y:ZAp z TI TO i1 i2 tp d)
  (hd:d<s.heap.objs.size) (hc:x.cps[i]? = some c) (hy:ys[i]? = some y)
  (hQ:∀(T:Addr) u h' tk,ZSt h' z TI TO i1 i2 tp d x t ys (i+1)→IsPair h' T (.str ⟨#[c]⟩ u) y→(∀c o,c≠z→c≠TO→c≠i1→c≠i2→s.heap.get? c=some o→h'.get? c=some o)→h'.objs.size=s.heap.objs.size+1→Q (some (.ref T)) {s with heap:=h',toks:=tk}) :
  wpAny (model prog w) A (pyNext (.ref z)) Q E s:=by
 obtain⟨zp,ti,⟨a,b,to⟩,s1,s2⟩:=Z
 have D:=Y.D
 obtain⟨o1,e1,r1⟩:=id s1
 obtain⟨⟨o2,e2,r2⟩,o3,e3,r3⟩:=id s2
 have lt:∀{c:Addr}{o:Obj},s.heap.get? c=some o→s.heap.objs.size≠c:=fun e=>Nat.ne_of_gt (Heap.lt_size e)
 have Y1:=yields_ascii (prog:=prog) (w:=w) (A:=A.in1) (it:=i1) (t:=t) hc
 have Y2:=yields_tuple (prog:=prog) (w:=w) (A:=A.in1) Y.t2 hy
 rcases zp with⟨f1,hz⟩|⟨T,oT,fb,hz,hT,n1,n2,n3,n4,n5⟩
 ·have hTy:s.TypeIs (.ref z) "zip" := ⟨_,hz,rfl⟩
  unfold pyNext
  refine wpAny_bind (wpAny_attempt (wpAny_callSpecial?_slot (name:=Str.ofString "__next__") hTy F.slot_zip_next
   (wpAny_call_entry F.slot_zip_next hTy F.entry_zip_next (next_item D hz ti to Y1 Y2 ?_ ?_ ?_ ?_ ?_) (F.args_zip_next_1 _))))
  ·exact fun h' k=>⟨o1,k _ _ D.i1z e1,r1⟩
  ·exact fun h' k=>⟨⟨o2,k _ _ D.i2z D.TOi2.symm D.i12.symm e2,r2⟩,o3,k _ _ Y.tz Y.tO Y.t1 e3,r3⟩
  ·exact fun h h' ⟨p1,q1,w1⟩ k=>⟨p1,k _ _ D.i1z D.TOi1.symm D.i12 q1,w1⟩
  ·exact fun h h' ⟨⟨p1,q1,w1⟩,p2,q2,w2⟩ k=>⟨⟨p1,k _ _ D.i2z D.TOi2.symm q1,w1⟩,p2,k _ _ Y.tz Y.tO q2,w2⟩
  ·rintro v1 v2 h' tk ⟨u,rfl⟩ rfl z' to' q1 q2 hp hsz k
   refine wpAny_pure (hQ _ u h' tk ⟨.inr ⟨_,_,false,z',hp,lt hz,lt to,lt e1,lt e2,Nat.ne_of_gt hd⟩,k _ _ D.TIz D.TITO D.TIi1 D.TIi2 ti,⟨_,_,to'⟩,q1,q2⟩ hp k hsz)
 ·have hTy:s.TypeIs (.ref z) "zip" := ⟨_,hz,rfl⟩
  unfold pyNext
  refine wpAny_bind (wpAny_attempt (wpAny_callSpecial?_slot (name:=Str.ofString "__next__") hTy F.slot_zip_next
   (wpAny_call_entry F.slot_zip_next hTy F.entry_zip_next (zdj D hz ti hT Y1 Y2 ?_ ?_ ?_ ?_ ?_) (F.args_zip_next_1 _))))
  ·exact fun h' k=>⟨o1,k _ _ D.i1z e1,r1⟩
  ·exact fun h' k=>⟨⟨o2,k _ _ D.i2z D.i12.symm e2,r2⟩,o3,k _ _ Y.tz Y.t1 e3,r3⟩
  ·exact fun h h' ⟨p1,q1,w1⟩ k=>⟨p1,k _ _ D.i12 q1,w1⟩
  ·exact fun h h' ⟨⟨p1,q1,w1⟩,p2,q2,w2⟩ k=>⟨⟨p1,k _ _ q1,w1⟩,p2,k _ _ q2,w2⟩
  ·rintro v1 v2 h' tk ⟨u,rfl⟩ rfl z' q1 q2 hp hsz k
   exact wpAny_pure (hQ _ u h' tk ⟨.inr ⟨T,oT,true,z',k _ _ n1 n3 n4 hT,n1,n2,n3,n4,n5⟩,k _ _ D.TIz D.TIi1 D.TIi2 ti,⟨_,_,k _ _ D.TOz D.TOi1 D.TOi2 to⟩,q1,q2⟩ hp (fun c o c1 _ c3 c4 e=>k c o c1 c3 c4 e) hsz)
end
end Zp
namespace Zp
open PySem
theorem zbY:entryFor table "dict.update.loop" = some Builtin.«dict.update.loop»:=entryFor_of_fast (by kernel_rfl)
theorem qX:plainId "dict.update.loop" = true:=by decide +kernel
end Zp
namespace Zp
open PySem
end Zp
namespace Zp
open PySem
section
variable {prog:Program}{w:World}{A:Around}{E:Value→Shared→Prop}{s:Shared}
theorem nextOf_list_item {it t:Addr}{i:Nat}{items}{x:Value}{Q:Value→Shared→Prop}(hit:s.heap.IsListIter it t i)
  (ht:s.heap.IsList t items) (hx:items[i]? = some x)
  (hQ:∀h',h'.IsListIter it t (i+1)→Heap.SameBut it s.heap h'→Q x {s with heap:=h'}) :
  wpAny (model prog w) A (Builtin.SmallTypes.nextOf (.ref it)) Q E s:=by
 obtain⟨o,ho,hc,hd⟩:=id hit
 obtain⟨ol,hol,_,nl,hdl⟩:=ht
 unfold Builtin.SmallTypes.nextOf
 refine wpAny_bind (wpAny_callSpecial?_slot (name:=Str.ofString "__next__") hit.typeIs slot_listiter_next
  (wpAny_call_entry slot_listiter_next hit.typeIs entry_listiter_next ?_ (args_listiter_next _)))
 show wpAny _ _ (field (.ref it) 0 >>= _) _ _ s
 refine wpAny_bind (wpAny_field ho hd (x:=.ref t) rfl ?_)
 show wpAny _ _ (if (Value.ref t == Value.none)=true then _ else _) _ _ s
 rw[if_neg (show ¬((Value.ref t == Value.none)=true) from Bool.false_ne_true)]
 show wpAny _ _ (field (.ref it) 1 >>= _) _ _ s
 refine wpAny_bind (wpAny_field ho hd (x:=.int i 0) rfl ?_)
 show wpAny _ _ (seqItems? (.ref t) >>= _) _ _ s
 refine wpAny_bind (wpAny_seqItems hol hdl ?_)
 simp only[Int.toNat_natCast,hx]
 refine wpAny_bind (wpAny_setField ho hd (by simp) (wpAny_pure ⟨x,rfl,wpAny_pure (hQ _ ?_ (Heap.SameBut.update ..))⟩))
 exact ⟨_,Heap.get?_update_self _ ho (Obj.isFreed_of_fields (Obj.data_mapFields hd _)),(Obj.cls_mapFields ..).trans hc,by
  rw[Obj.data_mapFields hd];simp[rawInt]⟩
theorem nextOf_list_end {it t:Addr}{i:Nat}{items}{Q:Value→Shared→Prop}(hh:A.handled=none)
  (hit:s.heap.IsListIter it t i) (ht:s.heap.IsList t items) (hx:items[i]? = none)
  (hE:∀h' e,Heap.ExtBut it s.heap h'→(∃o,h'.get? e=some o∧o.cls=.type "StopIteration")→E (.ref e) {s with heap:=h'}) :
  wpAny (model prog w) A (Builtin.SmallTypes.nextOf (.ref it)) Q E s:=by
 obtain⟨o,ho,hc,hd⟩:=id hit
 obtain⟨ol,hol,_,nl,hdl⟩:=ht
 unfold Builtin.SmallTypes.nextOf
 refine wpAny_bind (wpAny_callSpecial?_slot (name:=Str.ofString "__next__") hit.typeIs slot_listiter_next
  (wpAny_call_entry slot_listiter_next hit.typeIs entry_listiter_next ?_ (args_listiter_next _)))
 show wpAny _ _ (field (.ref it) 0 >>= _) _ _ s
 refine wpAny_bind (wpAny_field ho hd (x:=.ref t) rfl ?_)
 show wpAny _ _ (if (Value.ref t == Value.none)=true then _ else _) _ _ s
 rw[if_neg (show ¬((Value.ref t == Value.none)=true) from Bool.false_ne_true)]
 show wpAny _ _ (field (.ref it) 1 >>= _) _ _ s
 refine wpAny_bind (wpAny_field ho hd (x:=.int i 0) rfl ?_)
 show wpAny _ _ (seqItems? (.ref t) >>= _) _ _ s
 refine wpAny_bind (wpAny_seqItems hol hdl ?_)
 simp only[Int.toNat_natCast,hx]
 refine wpAny_bind (wpAny_rule (wpAny_bind (wpAny_setField ho hd (by simp) ?_)))
 show wpAny _ _ (newExc (.type "StopIteration") [] >>= _) _ _ _
 refine wpAny_bind ?_
 simp only[newExc,newTuple]
 refine wpAny_bind (wpAny_newObj_type ?_ (by size_fits))
 refine wpAny_bind (m:=firstArgMember _ _) (wpAny_of_eq (a:=Value.none) (by first|rfl|(simp only[firstArgMember];rfl)) ?_)
 refine wpAny_newObj_type ?_ (by size_fits)
 simp only[raiseNew]
 refine wpAny_bind (wpAny_handled ?_)
 first|rw[show A.in1.handled=none from hh] | rw[hh]
 refine wpAny_bind (wpAny_pure (wpAny_throw ?_))
 exact hE _ _ (((Heap.SameBut.update ..).extBut.push _).push _) ⟨_,Heap.get?_push_size _ rfl,rfl⟩
end
structure Src (prog:Program)(w:World)(it tp:Addr)(n:Nat)(g:Nat→Value)(S:Nat→Heap→Prop):Prop where
 yl:∀(A:Around) (i:Nat),i<n→Yields prog w A it (S i) (fun v=>v=g i) (S (i+1))
 en:∀(A:Around) (i:Nat),A.handled=none→n≤i→Ends prog w A it (S i)
 mv:∀(i:Nat) (h h':Heap),S i h→(∀o,h.get? it=some o→h'.get? it=some o)→(∀o,h.get? tp=some o→h'.get? tp=some o)→S i h'
 li:∀(i:Nat) (h:Heap),S i h→(∃o,h.get? it=some o)∧∃o,h.get? tp=some o
theorem src_tup {prog:Program}{w:World}{it tp:Addr}{xs:Array Value}(hne:tp≠it):Src prog w it tp xs.size (fun i=>xs.getD i .none) (fun i h=>h.IsTupleIter it tp i∧h.IsTuple tp xs) :=
 ⟨fun A i hi=>yields_tuple hne (by rw[Array.getElem?_eq_getElem hi];simp[Array.getD,hi]),fun A i hh hi=>ends_tuple hh (Array.getElem?_eq_none hi),
  fun i h h' ⟨⟨o,e,r⟩,o2,e2,r2⟩ k1 k2=>⟨⟨o,k1 _ e,r⟩,o2,k2 _ e2,r2⟩,fun i h ⟨⟨o,e,r⟩,o2,e2,r2⟩=>⟨⟨o,e⟩,o2,e2⟩⟩
theorem src_lst {prog:Program}{w:World}{it tp:Addr}{xs:Array Value}(hne:tp≠it):Src prog w it tp xs.size (fun i=>xs.getD i .none) (fun i h=>h.IsListIter it tp i∧h.IsList tp xs) :=
 ⟨fun A i hi s Q E g hQ=>nextOf_list_item g.1 g.2 (Array.getElem?_eq_getElem hi) fun h' st sb=>hQ _ h' s.toks (by simp[Array.getD,hi]) ⟨st,g.2.extBut sb.extBut hne⟩ sb,
  fun A i hh hi s Q E g hE=>nextOf_list_end hh g.1 g.2 (Array.getElem?_eq_none hi) hE,
  fun i h h' ⟨⟨o,e,r⟩,o2,e2,r2⟩ k1 k2=>⟨⟨o,k1 _ e,r⟩,o2,k2 _ e2,r2⟩,fun i h ⟨⟨o,e,r⟩,o2,e2,r2⟩=>⟨⟨o,e⟩,o2,e2⟩⟩
structure GAp (z TI TO i1 i2 p1 p2 d:Addr):Prop where
 D:Apart z TI TO i1 i2
 az:p1≠z
 aO:p1≠TO
 a2:p1≠i2
 bz:p2≠z
 bO:p2≠TO
 b1:p2≠i1
 dz:d≠z
 dI:d≠TI
 dO:d≠TO
 d1:d≠i1
 d2:d≠i2
 da:d≠p1
 db:d≠p2
structure GSt (h:Heap)(z TI TO i1 i2 d:Addr)(S1 S2:Nat→Heap→Prop)(i:Nat):Prop where
 zip:(∃f1,IsZipF h z TI TO .none (.bool f1))∨∃(T:Addr) (oT:Obj) (fb:Bool),IsZipF h z TI TO (rawInt T) (.bool fb)∧h.get? T=some oT∧T≠z∧T≠TO∧T≠i1∧T≠i2∧T≠d
 ti:IsPair h TI (.ref i1) (.ref i2)
 to:∃a b,IsPair h TO a b
 s1:S1 i h
 s2:S2 i h
section
variable {prog:Program}{w:World}{A:Around}{E:Value→Shared→Prop}{s:Shared}{z TI TO i1 i2 p1 p2 d:Addr}{n1 n2:Nat}{g1 g2:Nat→Value}{S1 S2:Nat→Heap→Prop}
theorem GSt.dict {h h':Heap}{i:Nat}(Z:GSt h z TI TO i1 i2 d S1 S2 i)(Y:GAp z TI TO i1 i2 p1 p2 d)(C1:Src prog w i1 p1 n1 g1 S1)(C2:Src prog w i2 p2 n2 g2 S2)
  (k:∀c o,c≠d→h.get? c=some o→h'.get? c=some o):GSt h' z TI TO i1 i2 d S1 S2 i:=by
 obtain⟨zp,ti,⟨a,b,to⟩,s1,s2⟩:=Z
 refine⟨?_,k _ _ (Ne.symm Y.dI) ti,⟨a,b,k _ _ (Ne.symm Y.dO) to⟩,C1.mv _ _ _ s1 (fun o=>k _ o (Ne.symm Y.d1)) (fun o=>k _ o (Ne.symm Y.da)),C2.mv _ _ _ s2 (fun o=>k _ o (Ne.symm Y.d2)) (fun o=>k _ o (Ne.symm Y.db))⟩
 rcases zp with⟨f1,hz⟩|⟨T,oT,fb,hz,hT,n1,n2,n3,n4,n5⟩
 ·exact .inl ⟨f1,k _ _ (Ne.symm Y.dz) hz⟩
 ·exact .inr ⟨T,oT,fb,k _ _ (Ne.symm Y.dz) hz,k _ _ n5 hT,n1,n2,n3,n4,n5⟩
theorem GSt.next {i:Nat}{Q:Option Value→Shared→Prop}(Z:GSt s.heap z TI TO i1 i2 d S1 S2 i)(Y:GAp z TI TO i1 i2 p1 p2 d)(C1:Src prog w i1 p1 n1 g1 S1)(C2:Src prog w i2 p2 n2 g2 S2)
  (hd:d<s.heap.objs.size) (hc:i<n1) (hy:i<n2)
  (hQ:∀(T:Addr) h' tk,GSt h' z TI TO i1 i2 d S1 S2 (i+1)→IsPair h' T (g1 i) (g2 i)→(∀c o,c≠z→c≠TO→c≠i1→c≠i2→s.heap.get? c=some o→h'.get? c=some o)→h'.objs.size=s.heap.objs.size+1→Q (some (.ref T)) {s with heap:=h',toks:=tk}) :
  wpAny (model prog w) A (pyNext (.ref z)) Q E s:=by
 obtain⟨zp,ti,⟨a,b,to⟩,s1,s2⟩:=Z
 have D:=Y.D
 obtain⟨⟨o1,e1⟩,_⟩:=C1.li _ _ s1
 obtain⟨⟨o2,e2⟩,_⟩:=C2.li _ _ s2
 have lt:∀{c:Addr}{o:Obj},s.heap.get? c=some o→s.heap.objs.size≠c:=fun e=>Nat.ne_of_gt (Heap.lt_size e)
 have Y1:=C1.yl A.in1 i hc
 have Y2:=C2.yl A.in1 i hy
 rcases zp with⟨f1,hz⟩|⟨T,oT,fb,hz,hT,n1,n2,n3,n4,n5⟩
 ·have hTy:s.TypeIs (.ref z) "zip" := ⟨_,hz,rfl⟩
  unfold pyNext
  refine wpAny_bind (wpAny_attempt (wpAny_callSpecial?_slot (name:=Str.ofString "__next__") hTy F.slot_zip_next
   (wpAny_call_entry F.slot_zip_next hTy F.entry_zip_next (next_item D hz ti to Y1 Y2 ?_ ?_ ?_ ?_ ?_) (F.args_zip_next_1 _))))
  ·exact fun h' k=>C1.mv _ _ _ s1 (fun o=>k _ o D.i1z) (fun o=>k _ o Y.az)
  ·exact fun h' k=>C2.mv _ _ _ s2 (fun o=>k _ o D.i2z D.TOi2.symm D.i12.symm) (fun o=>k _ o Y.bz Y.bO Y.b1)
  ·exact fun h h' q k=>C1.mv _ _ _ q (fun o=>k _ o D.i1z D.TOi1.symm D.i12) (fun o=>k _ o Y.az Y.aO Y.a2)
  ·exact fun h h' q k=>C2.mv _ _ _ q (fun o=>k _ o D.i2z D.TOi2.symm) (fun o=>k _ o Y.bz Y.bO)
  ·rintro v1 v2 h' tk rfl rfl z' to' q1 q2 hp hsz k
   refine wpAny_pure (hQ _ h' tk ⟨.inr ⟨_,_,false,z',hp,lt hz,lt to,lt e1,lt e2,Nat.ne_of_gt hd⟩,k _ _ D.TIz D.TITO D.TIi1 D.TIi2 ti,⟨_,_,to'⟩,q1,q2⟩ hp k hsz)
 ·have hTy:s.TypeIs (.ref z) "zip" := ⟨_,hz,rfl⟩
  unfold pyNext
  refine wpAny_bind (wpAny_attempt (wpAny_callSpecial?_slot (name:=Str.ofString "__next__") hTy F.slot_zip_next
   (wpAny_call_entry F.slot_zip_next hTy F.entry_zip_next (zdj D hz ti hT Y1 Y2 ?_ ?_ ?_ ?_ ?_) (F.args_zip_next_1 _))))
  ·exact fun h' k=>C1.mv _ _ _ s1 (fun o=>k _ o D.i1z) (fun o=>k _ o Y.az)
  ·exact fun h' k=>C2.mv _ _ _ s2 (fun o=>k _ o D.i2z D.i12.symm) (fun o=>k _ o Y.bz Y.b1)
  ·exact fun h h' q k=>C1.mv _ _ _ q (fun o=>k _ o D.i12) (fun o=>k _ o Y.a2)
  ·exact fun h h' q k=>C2.mv _ _ _ q (fun o=>k _ o) (fun o=>k _ o)
  ·rintro v1 v2 h' tk rfl rfl z' q1 q2 hp hsz k
   exact wpAny_pure (hQ _ h' tk ⟨.inr ⟨T,oT,true,z',k _ _ n1 n3 n4 hT,n1,n2,n3,n4,n5⟩,k _ _ D.TIz D.TIi1 D.TIi2 ti,⟨_,_,k _ _ D.TOz D.TOi1 D.TOi2 to⟩,q1,q2⟩ hp (fun c o c1 _ c3 c4 e=>k c o c1 c3 c4 e) hsz)
theorem GSt.done {i:Nat}{Q:Option Value→Shared→Prop}(hh:A.handled=none)(Z:GSt s.heap z TI TO i1 i2 d S1 S2 i)(Y:GAp z TI TO i1 i2 p1 p2 d)(C1:Src prog w i1 p1 n1 g1 S1)(C2:Src prog w i2 p2 n2 g2 S2)
  (hend:min n1 n2≤i)
  (hQ:∀h' tk,(∀c o,c≠z→c≠TO→c≠i1→c≠i2→s.heap.get? c=some o→h'.get? c=some o)→Q none {s with heap:=h',toks:=tk}) :
  wpAny (model prog w) A (pyNext (.ref z)) Q E s:=by
 obtain⟨zp,ti,⟨a,b,to⟩,s1,s2⟩:=Z
 have D:=Y.D
 have hend':Ends prog w A.in1 i1 (S1 i)∨(Yields prog w A.in1 i1 (S1 i) (fun _=>True) (fun _=>True)∧Ends prog w A.in1 i2 (S2 i)):=by
  rcases Nat.lt_or_ge i n1 with h|h
  ·exact .inr ⟨fun s Q E g hQ=>C1.yl A.in1 i h s Q E g fun v h' tk _ _ sb=>hQ v h' tk trivial trivial sb,C2.en A.in1 i hh (by omega)⟩
  ·exact .inl (C1.en A.in1 i hh h)
 rcases zp with⟨f1,hz⟩|⟨T,oT,fb,hz,hT,n1,n2,n3,n4,n5⟩
 ·have hTy:s.TypeIs (.ref z) "zip" := ⟨_,hz,rfl⟩
  unfold pyNext
  refine wpAny_bind (wpAny_attempt (wpAny_callSpecial?_slot (name:=Str.ofString "__next__") hTy F.slot_zip_next
   (wpAny_call_entry F.slot_zip_next hTy F.entry_zip_next (next_end D hz ti to hend' ?_ ?_ ?_) (F.args_zip_next_1 _))))
  ·exact fun h' k=>C1.mv _ _ _ s1 (fun o=>k _ o D.i1z) (fun o=>k _ o Y.az)
  ·exact fun h' k=>C2.mv _ _ _ s2 (fun o=>k _ o D.i2z D.TOi2.symm D.i12.symm) (fun o=>k _ o Y.bz Y.bO Y.b1)
  ·intro h' tk e k he
   obtain⟨o,ho,hc⟩:=he
   refine wpAny_bind (wpAny_isInstance (T := "StopIteration") (b:=true) ⟨o,ho,hc⟩ isSubtype_stop ?_)
   exact wpAny_pure (hQ _ _ k)
 ·have hTy:s.TypeIs (.ref z) "zip" := ⟨_,hz,rfl⟩
  unfold pyNext
  refine wpAny_bind (wpAny_attempt (wpAny_callSpecial?_slot (name:=Str.ofString "__next__") hTy F.slot_zip_next
   (wpAny_call_entry F.slot_zip_next hTy F.entry_zip_next (end_busy D hz ti hT hend' ?_ ?_ ?_) (F.args_zip_next_1 _))))
  ·exact fun h' k=>C1.mv _ _ _ s1 (fun o=>k _ o D.i1z) (fun o=>k _ o Y.az)
  ·exact fun h' k=>C2.mv _ _ _ s2 (fun o=>k _ o D.i2z D.i12.symm) (fun o=>k _ o Y.bz Y.b1)
  ·intro h' tk e k he
   obtain⟨o,ho,hc⟩:=he
   refine wpAny_bind (wpAny_isInstance (T := "StopIteration") (b:=true) ⟨o,ho,hc⟩ isSubtype_stop ?_)
   exact wpAny_pure (hQ _ _ fun c o c1 _ c3 c4 e=>k c o c1 c3 c4 e)
end
section
variable {prog:Program}{w:World}{K:Type} [DecidableEq K]{knd:KeyKind prog w K}{A:Around}{R:Result→Shared→Prop}{z TI TO i1 i2 p1 p2 d:Addr}{n1 n2:Nat}{g1 g2:Nat→Value}{S1 S2:Nat→Heap→Prop}
theorem upd_loopG (hh:A.handled=none)(Y:GAp z TI TO i1 i2 p1 p2 d)(C1:Src prog w i1 p1 n1 g1 S1)(C2:Src prog w i2 p2 n2 g2 S2)(f:Nat→K)(hk:∀i,i<min n1 n2→knd.is (f i) (g1 i)=true)(hsm:n1≤1000) :
  ∀ (n i:Nat) (s:Shared) (kvs:List (K×Value)) (q:Int) (tq:Tok),min n1 n2 - i=n→i≤min n1 n2→GSt s.heap z TI TO i1 i2 d S1 S2 i→s.heap.DictOf knd d kvs→kvs.length≤i →
   (∀h' tk,h'.DictOf knd d (((List.range (min n1 n2)).drop i).foldl (fun m j=>stored m (f j) (g2 j)) kvs)→(∀c o,c≠z→c≠TO→c≠i1→c≠i2→c≠d→s.heap.get? c=some o→h'.get? c=some o) →
    R (.ok (.ret .none)) {s with heap:=h',toks:=tk}) →
   codeAny (model prog w) A (.builtin "dict.update.loop" ⟨[.ref d,.ref z,.int q tq,.none],[]⟩) R s:=by
 intro n
 induction n with
 | zero =>
  intro i s kvs q tq hn hi Z hm hl hR
  refine codeAny_builtin zbY ?_
  rw[Around.under_plainId qX _]
  show wpAny _ A.in1 (pyNext (.ref z) >>= _) _ _ s
  refine wpAny_bind (Z.done hh Y C1 C2 (by omega) fun h' tk k=>?_)
  refine wpAny_bind (m:=Builtin.Dict.addKeywords d []) (wpAny_pure (wpAny_pure ?_))
  have e:(List.range (min n1 n2)).drop i=[]:=List.drop_of_length_le (by rw[List.length_range];omega)
  rw[e] at hR
  refine hR h' tk ?_ fun c o c1 c2 c3 c4 _ e=>k c o c1 c2 c3 c4 e
  obtain⟨o,ho,r⟩:=Heap.dictOf_iff.mp hm
  exact Heap.dictOf_iff.mpr ⟨o,k _ _ Y.dz Y.dO Y.d1 Y.d2 ho,r⟩
 | succ n ih =>
  intro i s kvs q tq hn hi Z hm hl hR
  refine codeAny_builtin zbY ?_
  rw[Around.under_plainId qX _]
  show wpAny _ A.in1 (pyNext (.ref z) >>= _) _ _ s
  have hd:d<s.heap.objs.size:=by obtain⟨o,ho,_⟩:=Heap.dictOf_iff.mp hm;exact Heap.lt_size ho
  refine wpAny_bind (Z.next Y C1 C2 hd (by omega) (by omega) fun T h' tk Z' hp k hsz=>?_)
  dsimp only
  have hT:(⟨h',s.gens,s.drawn,tk,s.os⟩:Shared).TypeIs (.ref T) "tuple" := ⟨_,hp,rfl⟩
  refine wpAny_bind (wpAny_holding (wpAny_bind (wpAny_tryCatch ?_)))
  unfold Builtin.Dict.pairItems
  refine wpAny_bind (wpAny_typeOf hT ?_)
  rw[if_pos (by decide)]
  refine wpAny_bind (wpAny_seqItems hp rfl (wpAny_pure ?_))
  show wpAny _ A.in1 (holding [g1 i,g2 i] (dictSet d (g1 i) (g2 i))) _ _ _
  have hm':h'.DictOf knd d kvs:=by
   obtain⟨o,ho,r⟩:=Heap.dictOf_iff.mp hm
   exact Heap.dictOf_iff.mpr ⟨o,k _ _ Y.dz Y.dO Y.d1 Y.d2 ho,r⟩
  refine wpAny_holding (wpAny_dictSet_pairs (hk i (by omega)) hm' (fun h'' hm'' sb=>?_) (by rw[sizeLine_eq];omega))
  refine wpAny_pure ⟨plainId_quiet qX _,?_⟩
  have hl2:(stored kvs (f i) (g2 i)).length≤i+1:=by
   have:=stored_length_le kvs (f i) (g2 i)
   omega
  refine ih (i+1) _ _ _ _ (by omega) (by omega) (Z'.dict Y C1 C2 fun c o hc e=>sb.extBut _ _ hc e) hm'' hl2 fun h3 tk3 hm3 k3=>?_
  have e:(List.range (min n1 n2)).drop i=i::(List.range (min n1 n2)).drop (i+1):=by
   rw[List.drop_eq_getElem_cons (by rw[List.length_range];omega)]
   simp
  rw[e,List.foldl_cons] at hR
  exact hR h3 tk3 hm3 fun c o c1 c2 c3 c4 c5 e=>k3 c o c1 c2 c3 c4 c5 (sb.extBut _ _ c5 (k c o c1 c2 c3 c4 e))
end
section
variable {prog:Program}{w:World}{K:Type} [DecidableEq K]{knd:KeyKind prog w K}{A:Around}{E:Value→Shared→Prop}{s:Shared}{z TI TO i1 i2 p1 p2:Addr}{n1 n2:Nat}{g1 g2:Nat→Value}{S1 S2:Nat→Heap→Prop}
theorem call_dict_zipG {Q:Value→Shared→Prop}(hh:A.handled=none)(D:Apart z TI TO i1 i2)(az:p1≠z)(aO:p1≠TO)(a2:p1≠i2)(bz:p2≠z)(bO:p2≠TO)(b1:p2≠i1)
  (C1:Src prog w i1 p1 n1 g1 S1) (C2:Src prog w i2 p2 n2 g2 S2) (f:Nat→K) (hk:∀i,i<min n1 n2→knd.is (f i) (g1 i)=true) (hsm:n1≤1000)
  (hz:IsZipF s.heap z TI TO .none (.bool false)) (hTI:IsPair s.heap TI (.ref i1) (.ref i2)) (hTO:IsPair s.heap TO .none .none) (s1:S1 0 s.heap) (s2:S2 0 s.heap)
  (h:∀h' tk,h'.DictOf knd s.heap.objs.size ((List.range (min n1 n2)).foldl (fun m j=>stored m (f j) (g2 j)) [])→(∀c o,c≠z→c≠TO→c≠i1→c≠i2→s.heap.get? c=some o→h'.get? c=some o) →
   Q (.ref s.heap.objs.size) {s with heap:=h',toks:=tk}) :
  wpAny (model prog w) A (call (.type "dict") [.ref z]) Q E s:=by
 refine callType_codes (Q₁:=fun obj s₁=>obj=.ref s.heap.objs.size∧s₁={s with heap:=s.heap.push {cls:=.type "dict", data:=.dict #[]} }) F.kt_called_dict (F.kt_typeCall_dict_1 _) F.entry_dict_init (kt_code_dict_new _ ⟨rfl,rfl⟩) ?_
 rintro obj s₁ ⟨rfl,rfl⟩
 have hnew:(s.heap.push {cls:=.type "dict", data:=.dict #[]}).DictOf knd s.heap.objs.size []:=Heap.DictOf.new s.heap
 have up:∀c o,s.heap.get? c=some o→(s.heap.push {cls:=.type "dict", data:=.dict #[]}).get? c=some o:=fun c o e=>Heap.get?_push_of_some _ e
 have hz':=up _ _ hz
 have hzT:({s with heap:=s.heap.push {cls:=.type "dict", data:=.dict #[]} }:Shared).TypeIs (.ref z) "zip" := ⟨_,hz',rfl⟩
 have lt:∀{c:Addr}{o:Obj},s.heap.get? c=some o→s.heap.objs.size≠c:=fun e=>Nat.ne_of_gt (Heap.lt_size e)
 obtain⟨⟨o1,e1⟩,q1,f1⟩:=C1.li _ _ s1
 obtain⟨⟨o2,e2⟩,q2,f2⟩:=C2.li _ _ s2
 have Y:GAp z TI TO i1 i2 p1 p2 s.heap.objs.size:=⟨D,az,aO,a2,bz,bO,b1,lt hz,lt hTI,lt hTO,lt e1,lt e2,lt f1,lt f2⟩
 refine⟨hnew.typeIs,F.args_dict_init_2 _ _,?_⟩
 unfold Builtin.«dict.__init__»
 refine wpAny_bind ?_
 unfold Builtin.Dict.selfAndRest
 refine wpAny_bind (wpAny_notOrdered_dict hnew.typeIs ?_)
 show wpAny _ _ (pure (s.heap.objs.size,[Value.ref z])) _ _ _
 refine wpAny_pure ?_
 show wpAny _ _ (Builtin.Dict.updateFrom "dict.__init__" s.heap.objs.size (.ref z) [] .none) _ _ _
 unfold Builtin.Dict.updateFrom
 refine wpAny_bind (wpAny_typeOf hzT ?_)
 rw[if_pos (by decide)]
 refine wpAny_bind (no_keys hz' hh fun h4 tk4 k4=>?_)
 simp only[Option.isNone_none,if_true]
 refine wpAny_bind (wpAny_rule ?_)
 have kk:∀c o,s.heap.get? c=some o→h4.get? c=some o:=fun c o e=>k4 _ _ (up _ _ e)
 have Z:GSt h4 z TI TO i1 i2 s.heap.objs.size S1 S2 0:=⟨.inl ⟨false,k4 _ _ hz'⟩,kk _ _ hTI,⟨_,_,kk _ _ hTO⟩,C1.mv _ _ _ s1 (fun o=>kk _ o) (fun o=>kk _ o),C2.mv _ _ _ s2 (fun o=>kk _ o) (fun o=>kk _ o)⟩
 have hm:h4.DictOf knd s.heap.objs.size []:=by
  obtain⟨o,ho,r⟩:=Heap.dictOf_iff.mp hnew
  exact Heap.dictOf_iff.mpr ⟨o,k4 _ _ ho,r⟩
 refine wpAny_bind (wpAny_pyIter_zip (k4 _ _ hz') ?_)
 refine wpAny_pure ⟨plainId_quiet qX _,?_⟩
 refine upd_loopG (knd:=knd) (A:=A.in1) hh Y C1 C2 f hk hsm _ 0 _ [] _ _ rfl (Nat.zero_le _) Z hm (Nat.le_refl _) fun h5 tk5 hm5 k5=>?_
 exact⟨rfl,h h5 tk5 (by simpa using hm5) fun c o c1 c2 c3 c4 e=>k5 c o c1 c2 c3 c4 (fun q=>lt e q.symm) (kk _ _ e)⟩
end
section
variable {prog:Program}{w:World}{A:Around}{E:Value→Shared→Prop}{s:Shared}
abbrev lIter (t:Addr):Obj:={cls:=.type "list_iterator", data:=.fields #[.ref t,.int 0 0]}
def Itb (l:Addr)(o:Obj)(G:Heap→Prop):Prop:=∀(prog:Program) (w:World) (A:Around) (s:Shared) (Q:Value→Shared→Prop) (E:Value→Shared→Prop),G s.heap→Q (.ref s.heap.objs.size) {s with heap:=s.heap.push o}→wpAny (model prog w) A (pyIter (.ref l)) Q E s
theorem itb_tup (l:Addr)(xs:Array Value):Itb l (tIter l) (fun h=>h.IsTuple l xs):=fun _ _ _ _ _ _ g q=>wpAny_pyIter_tuple g q
theorem itb_lst (l:Addr)(xs:Array Value):Itb l (lIter l) (fun h=>h.IsList l xs):=fun _ _ _ _ _ _ g q=>wpAny_pyIter_list g q
theorem meets_gg {l1 l2:Addr}{o1 o2:Obj}{G1 G2:Heap→Prop}(b1:Itb l1 o1 G1)(b2:Itb l2 o2 G2)(up:∀h,G2 h→G2 (h.push o1)) :
  Meets (Builtin.«zip.__new__» ⟨[.type "zip", .ref l1,.ref l2],[]⟩) (fun _ R s=>G1 s.heap∧G2 s.heap ∧
   R (.ok (.ret (.ref (zH4 s.heap o1 o2).objs.size))) {s with heap:=zH5 s.heap o1 o2}) :=
 .of_wp fun prog w A R s h=>by
  obtain⟨hl1,hl2,h⟩:=h
  have z3:(zH3 s.heap o1 o2).objs.size=(zH2 s.heap o1 o2).objs.size+1:=Heap.size_push ..
  have z4:(zH4 s.heap o1 o2).objs.size=(zH2 s.heap o1 o2).objs.size+2:=by rw[Heap.size_push,z3]
  refine meets_st_aux (h1:=s.heap.push o1) (h2:=zH2 s.heap o1 o2) (i1:=s.heap.objs.size) (i2:=(s.heap.push o1).objs.size)
   (fun Q E q=>b1 prog w A.in1 s Q E hl1 q) (fun Q E q=>b2 prog w A.in1 {s with heap:=s.heap.push o1} Q E (up _ hl2) q) ⟨_,rfl,?_⟩
  rw[← z4,← z3]
  exact h
theorem call_zipG {l1 l2:Addr}{o1 o2:Obj}{G1 G2:Heap→Prop}{Q:Value→Shared→Prop}(f1:o1.isFreed=false)(f2:o2.isFreed=false)(b1:Itb l1 o1 G1)(b2:Itb l2 o2 G2)(up:∀h,G2 h→G2 (h.push o1))(hl1:G1 s.heap)(hl2:G2 s.heap)
  (h:∀h',Made5 s.heap h' o1 o2→Q (.ref (s.heap.objs.size+4)) {s with heap:=h'}) :
  wpAny (model prog w) A (call (.type "zip") [.ref l1,.ref l2]) Q E s:=by
 refine callType_new F.called_zip (by decide) (F.typeCall_zip_2 _ _) (F.newCall_zip_2 _ _) (fun obj=>F.args_object_init_3 obj _ _) F.entry_zip_new
  (meets_gg b1 b2 up) ⟨hl1,hl2,?_⟩
 obtain⟨m,z4⟩:=made5 s.heap o1 o2 f1 f2
 show _∧_
 rw[z4]
 exact⟨⟨_,m.1,rfl⟩,h _ m⟩
end
end Zp
set_option maxHeartbeats 1000000
namespace L2
open PySem PySem.Spec PyProof.Rows
def TxtOk (x:Str):Prop:=PyData.strOk x=true∧x.length≤1000000
mutual
inductive Is (K:PySem.W.Frag)(H:Hp):V→PyData→Prop
 | non:Is K H .non .none
 | bl (b:Bool):Is K H (.bl b) (.bool b)
 | int (i:Int):Is K H (.int i) (.int i)
 | str (x:Str) (ok:TxtOk x):Is K H (.str x) (.str x)
 | lst {a:Addr}{xs:List V}{ds:List PyData}:SqL K H a xs→Iss K H xs ds→Is K H (.ref a) (.list ds)
 | tup {a:Addr}{xs:List V}{ds:List PyData}:SqT K H a xs→Iss K H xs ds→Is K H (.ref a) (.tuple ds)
inductive Iss (K:PySem.W.Frag)(H:Hp):List V→List PyData→Prop
 | nil:Iss K H [] []
 | cons {v:V}{d:PyData}{vs:List V}{ds:List PyData}:Is K H v d→Iss K H vs ds→Iss K H (v::vs) (d::ds)
end
theorem Same.seqT {K:PySem.W.Frag}{H H':Hp}{a:Addr}{xs:List V}(e:Same H H')(h:SqT K H a xs):SqT K H' a xs:=by
 rcases h with(h|⟨o,h⟩)|h
 ·exact .inl (.inl (e _ _ h))
 ·exact .inl (.inr ⟨o,e _ _ h⟩)
 ·exact .inr h
section
variable {K:PySem.W.Frag}{H H':Hp}
theorem Is.mono_both (e:Same H H'):(∀{v:V}{d:PyData},Is K H v d→Is K H' v d)∧(∀{vs:List V}{ds:List PyData},Iss K H vs ds→Iss K H' vs ds):=by
 refine⟨fun {v d} h=>?_,fun {vs ds} h=>?_⟩
 ·exact Is.rec (motive_1:=fun v d _=>Is K H' v d) (motive_2:=fun vs ds _=>Iss K H' vs ds) .non .bl .int .str (fun q _ ih=>.lst (e.seq q) ih) (fun q _ ih=>.tup (e.seqT q) ih) .nil (fun _ _ a b=>.cons a b) h
 ·exact Iss.rec (motive_1:=fun v d _=>Is K H' v d) (motive_2:=fun vs ds _=>Iss K H' vs ds) .non .bl .int .str (fun q _ ih=>.lst (e.seq q) ih) (fun q _ ih=>.tup (e.seqT q) ih) .nil (fun _ _ a b=>.cons a b) h
theorem Is.mono {v:V}{d:PyData}(h:Is K H v d)(e:Same H H'):Is K H' v d:=(Is.mono_both e).1 h
theorem Iss.mono {vs:List V}{ds:List PyData}(h:Iss K H vs ds)(e:Same H H'):Iss K H' vs ds:=(Is.mono_both e).2 h
theorem Iss.length:∀{vs:List V}{ds:List PyData},Iss K H vs ds→vs.length=ds.length
 | _,_,.nil=>rfl
 | _,_,.cons _ r=>by simp[r.length]
theorem Iss.append:∀{vs ws:List V}{ds es:List PyData},Iss K H vs ds→Iss K H ws es→Iss K H (vs++ws) (ds++es)
 | _,_,_,_,.nil,s=>s
 | _,_,_,_,.cons r t,s=>.cons r (Iss.append t s)
theorem Iss.get:∀{vs:List V}{ds:List PyData}{i:Nat}{v:V},Iss K H vs ds→vs[i]? = some v→∃d,ds[i]? = some d∧Is K H v d
 | _,_,_,_,.nil,e=>by simp at e
 | _,_,0,_,.cons r _,e=>by simp at e;subst e;exact⟨_,rfl,r⟩
 | _,_,i+1,v,.cons _ t,e=>by
  obtain⟨d,h1,h2⟩:=Iss.get (i:=i) (v:=v) t (by simpa using e)
  exact⟨d,by simpa using h1,h2⟩
theorem Iss.take:∀{vs:List V}{ds:List PyData} (n:Nat),Iss K H vs ds→Iss K H (vs.take n) (ds.take n)
 | _,_,0,_=>.nil
 | _,_,_+1,.nil=>.nil
 | _,_,n+1,.cons r t=>.cons r (Iss.take n t)
theorem Iss.drop:∀{vs:List V}{ds:List PyData} (n:Nat),Iss K H vs ds→Iss K H (vs.drop n) (ds.drop n)
 | _,_,0,r=>r
 | _,_,_+1,.nil=>.nil
 | _,_,n+1,.cons _ t=>Iss.drop n t
theorem Is.can_both:(∀{v:V}{d:PyData},Is K H v d→d.canLay0=true)∧(∀{vs:List V}{ds:List PyData},Iss K H vs ds→PyData.canLayAll0 ds=true):=by
 have hs:∀(x:Str),TxtOk x→(PyData.str x).canLay0=true:=fun x h=>h.1
 refine⟨fun {v d} h=>?_,fun {vs ds} h=>?_⟩
 ·exact Is.rec (motive_1:=fun v d _=>d.canLay0=true) (motive_2:=fun vs ds _=>PyData.canLayAll0 ds=true) rfl (fun _=>rfl) (fun _=>rfl) hs (fun _ _ ih=>ih) (fun _ _ ih=>ih) rfl (fun _ _ a b=>by simp[PyData.canLayAll0,a,b]) h
 ·exact Iss.rec (motive_1:=fun v d _=>d.canLay0=true) (motive_2:=fun vs ds _=>PyData.canLayAll0 ds=true) rfl (fun _=>rfl) (fun _=>rfl) hs (fun _ _ ih=>ih) (fun _ _ ih=>ih) rfl (fun _ _ a b=>by simp[PyData.canLayAll0,a,b]) h
theorem Is.can {v:V}{d:PyData}(h:Is K H v d):d.canLay0=true:=Is.can_both.1 h
end
section
variable {X:Cx}{pins:List (Addr×Obj)}{σ:St}{H:Hp}{s:Shared}
theorem Inv.reads_both (I:Inv X pins σ H s):(∀{v:V}{d:PyData},Is X.K H v d→∀{u:Value},RelV v u→∃as,Reads s.heap u d as)∧(∀{vs:List V}{ds:List PyData},Iss X.K H vs ds→∀{us:List Value},Vals vs us→∃as,ReadsAll s.heap us ds as):=by
 have h1:∀{u:Value},RelV .non u→∃as,Reads s.heap u .none as:=fun {u} r=>by cases r;exact⟨_,.none⟩
 have h2:∀(b:Bool) {u:Value},RelV (.bl b) u→∃as,Reads s.heap u (.bool b) as:=fun b {u} r=>by cases r;exact⟨_,.bool b⟩
 have h3:∀(i:Int) {u:Value},RelV (.int i) u→∃as,Reads s.heap u (.int i) as:=fun i {u} r=>by obtain⟨t,rfl⟩:=r;exact⟨_,.int i t⟩
 have h4:∀(x:Str),TxtOk x→∀{u:Value},RelV (.str x) u→∃as,Reads s.heap u (.str x) as:=fun x _ {u} r=>by obtain⟨t,rfl⟩:=r;exact⟨_,.str x t⟩
 have h5:∀{a:Addr}{xs:List V}{ds:List PyData} (_:SqL X.K H a xs) (_:Iss X.K H xs ds),(∀{us:List Value},Vals xs us→∃as,ReadsAll s.heap us ds as)→∀{u:Value},RelV (.ref a) u→∃as,Reads s.heap u (.list ds) as:=by
  intro a xs ds q _ ih u r
  cases r
  obtain⟨its,rv,⟨o,n,e,hc,_,hd⟩,_⟩:=I.list q
  obtain⟨as,ra⟩:=ih rv
  exact⟨_,.list e hc hd (by simpa using ra)⟩
 have h6:∀{a:Addr}{xs:List V}{ds:List PyData} (_:SqT X.K H a xs) (_:Iss X.K H xs ds),(∀{us:List Value},Vals xs us→∃as,ReadsAll s.heap us ds as)→∀{u:Value},RelV (.ref a) u→∃as,Reads s.heap u (.tuple ds) as:=by
  intro a xs ds q _ ih u r
  cases r
  obtain⟨its,rv,⟨o,e,hc,n,hd⟩,_⟩:=I.tuple q
  obtain⟨as,ra⟩:=ih rv
  exact⟨_,.tuple e hc hd (by simpa using ra)⟩
 have h7:∀{us:List Value},Vals [] us→∃as,ReadsAll s.heap us [] as:=fun {us} r=>by cases r;exact⟨_,.nil⟩
 have h8:∀{v:V}{d:PyData}{vs:List V}{ds:List PyData} (_:Is X.K H v d) (_:Iss X.K H vs ds),(∀{u:Value},RelV v u→∃as,Reads s.heap u d as)→(∀{us:List Value},Vals vs us→∃as,ReadsAll s.heap us ds as)→∀{us:List Value},Vals (v::vs) us→∃as,ReadsAll s.heap us (d::ds) as:=by
  intro v d vs ds _ _ a b us r
  cases r with
  | cons r t =>
   obtain⟨_,ra⟩:=a r
   obtain⟨_,rb⟩:=b t
   exact⟨_,.cons ra rb⟩
 refine⟨fun {v d} h=>?_,fun {vs ds} h=>?_⟩
 ·exact Is.rec (motive_1:=fun v d _=>∀{u:Value},RelV v u→∃as,Reads s.heap u d as) (motive_2:=fun vs ds _=>∀{us:List Value},Vals vs us→∃as,ReadsAll s.heap us ds as) h1 h2 h3 h4 h5 h6 h7 h8 h
 ·exact Iss.rec (motive_1:=fun v d _=>∀{u:Value},RelV v u→∃as,Reads s.heap u d as) (motive_2:=fun vs ds _=>∀{us:List Value},Vals vs us→∃as,ReadsAll s.heap us ds as) h1 h2 h3 h4 h5 h6 h7 h8 h
theorem Inv.reads (I:Inv X pins σ H s){v:V}{d:PyData}{u:Value}(h:Is X.K H v d)(r:RelV v u):∃as,Reads s.heap u d as:=I.reads_both.1 h r
def rEqD (K:PySem.W.Frag):R2:=fun x y H Q=>∃d e,Is K H x d∧Is K H y e∧d.depth≤60∧Q (.bl (PyData.eqv d e)) H
def rNeD (K:PySem.W.Frag):R2:=fun x y H Q=>∃d e,Is K H x d∧Is K H y e∧d.depth≤60∧Q (.bl (!PyData.eqv d e)) H
theorem op_eqD (hu:X.A.units+64<cLine):OpR X (compareOp .Eq) (rEqD X.K):=by
 intro pins s σ H x y v u Q I rx ry h
 obtain⟨d,e,hd,he,hz,q⟩:=h
 obtain⟨_,ra⟩:=I.reads hd rx
 obtain⟨_,rb⟩:=I.reads he ry
 exact SeqAt.rcAt_reads ra rb hd.can he.can (by omega) X.prog X.w X.xe _ (fin_bl I q rfl)
theorem vO (hu:X.A.units+64<cLine):OpR X (compareOp .NotEq) (rNeD X.K):=by
 intro pins s σ H x y v u Q I rx ry h
 obtain⟨d,e,hd,he,hz,q⟩:=h
 obtain⟨_,ra⟩:=I.reads hd rx
 obtain⟨_,rb⟩:=I.reads he ry
 exact SeqAt.rcNeAt_reads ra rb hd.can he.can (by omega) X.prog X.w X.xe _ (fin_bl I q rfl)
end
end L2
namespace L2
open PySem PySem.Spec PyProof.Rows
def zar (scope:Scope)(env:Env):List (Str×Addr):=scope.names.foldl (fun cs y=>if y.2 == NameKind.free then(y.1,(env.cells.lookup y.1).getD 0)::cs else cs) []
theorem zch {scope:Scope}{env:Env}(h:∀y∈scope.names,y.2=.free→∃c,env.cells.lookup y.1=some c):closureFor scope env=pure (zar scope env):=by
 have key:∀(names:List (Str×NameKind)) (cs:List (Str×Addr)),(∀y∈names,y.2=.free→∃c,env.cells.lookup y.1=some c) →
   (forIn names cs (fun(x:Str×NameKind) (r:List (Str×Addr))=>if (x.2 == NameKind.free)=true then(do let a ← cellOf env x.1;pure (ForInStep.yield ((x.1,a)::r)):Sem (ForInStep (List (Str×Addr)))) else pure (ForInStep.yield r))) =
    pure (names.foldl (fun cs y=>if y.2 == NameKind.free then(y.1,(env.cells.lookup y.1).getD 0)::cs else cs) cs):=by
  intro names
  induction names with
  | nil=>intro cs _;rfl
  | cons y r ih =>
   intro cs hy
   have hr:∀z∈r,z.2=.free→∃c,env.cells.lookup z.1=some c:=fun z hz=>hy z (List.mem_cons_of_mem _ hz)
   rw[List.forIn_cons,List.foldl_cons]
   cases hk:(y.2 == NameKind.free) with
   | false =>
    simp only[Bool.false_eq_true,if_false]
    exact ih cs hr
   | true =>
    have e:y.2=.free:=by simpa using hk
    obtain⟨c,hc⟩:=hy y List.mem_cons_self e
    have hco:cellOf env y.1=pure c:=by unfold cellOf;rw[hc]
    simp only[if_true,hco,hc,Option.getD_some]
    exact ih _ hr
 unfold closureFor zar
 have:=key scope.names [] h
 first|exact(congrArg (· >>= fun r=>pure r) this).trans rfl|exact this|simpa using this
theorem zb2 {scope:Scope}{env:Env}(h:∀y∈scope.names,y.2=.free→∃c,env.cells.lookup y.1=some c):∀p∈zar scope env,env.cells.lookup p.1=some p.2∧(p.1,NameKind.free)∈scope.names:=by
 have key:∀(names:List (Str×NameKind)) (cs:List (Str×Addr)),(∀y∈names,y∈scope.names)→(∀p∈cs,env.cells.lookup p.1=some p.2∧(p.1,NameKind.free)∈scope.names) →
   ∀p∈names.foldl (fun cs y=>if y.2 == NameKind.free then(y.1,(env.cells.lookup y.1).getD 0)::cs else cs) cs,env.cells.lookup p.1=some p.2∧(p.1,NameKind.free)∈scope.names:=by
  intro names
  induction names with
  | nil=>intro cs _ hc;exact hc
  | cons y r ih =>
   intro cs hs hc
   rw[List.foldl_cons]
   refine ih _ (fun z hz=>hs z (List.mem_cons_of_mem _ hz)) ?_
   cases hk:(y.2 == NameKind.free) with
   | false=>simp only[Bool.false_eq_true,if_false];exact hc
   | true =>
    have e:y.2=.free:=by simpa using hk
    obtain⟨c,hcc⟩:=h y (hs y List.mem_cons_self) e
    simp only[if_true]
    intro p hp
    rcases List.mem_cons.mp hp with rfl|hp
    ·exact⟨by rw[hcc];rfl,by have:=hs y List.mem_cons_self;rw[← e];exact this⟩
    ·exact hc p hp
 exact key scope.names [] (fun _ h=>h) (fun p hp=>by cases hp)
theorem zcB {l:List (Str×Addr)}{x:Str}(h:∃p∈l,p.1=x):∃c,l.lookup x=some c:=by
 induction l with
 | nil=>obtain⟨p,hp,_⟩:=h;cases hp
 | cons q r ih =>
  rw[List.lookup_cons]
  cases hq:(x == q.1) with
  | true=>exact⟨_,rfl⟩
  | false =>
   obtain⟨p,hp,e⟩:=h
   rcases List.mem_cons.mp hp with rfl|hp
   ·subst e;simp at hq
   ·exact ih ⟨p,hp,e⟩
theorem zbZ {scope:Scope}{env:Env}{x:Str}(hx:(x,NameKind.free)∈scope.names):∃c,(zar scope env).lookup x=some c:=by
 refine zcB ?_
 have key:∀(names:List (Str×NameKind)) (cs:List (Str×Addr)),((x,NameKind.free)∈names∨∃p∈cs,p.1=x) →
   ∃p∈names.foldl (fun cs y=>if y.2 == NameKind.free then(y.1,(env.cells.lookup y.1).getD 0)::cs else cs) cs,p.1=x:=by
  intro names
  induction names with
  | nil=>intro cs h;rcases h with h|h;cases h;exact h
  | cons y r ih =>
   intro cs h
   rw[List.foldl_cons]
   refine ih _ ?_
   rcases h with h|⟨p,hp,e⟩
   ·rcases List.mem_cons.mp h with h|h
    ·subst h
     exact .inr ⟨_,List.mem_cons_self,rfl⟩
    ·exact .inl h
   ·refine .inr ⟨p,?_,e⟩
    cases (y.2 == NameKind.free) with
    | true=>exact List.mem_cons_of_mem _ hp
    | false=>exact hp
 exact key scope.names [] (.inl hx)
theorem jd {scope:Scope}{env:Env}{x:Str}:(relabel scope env).names.lookup x=(scope.names.lookup x).map fun k=>if (k == NameKind.free&&env.scope.kind == .function&&env.kindOf x == some .cell) then NameKind.cell else k:=by
 show(scope.names.map _).lookup x=_
 induction scope.names with
 | nil=>rfl
 | cons y r ih =>
  obtain⟨n,k⟩:=y
  rw[List.map_cons,List.lookup_cons]
  cases hx:(x == n) with
  | true =>
   have e:x=n:=by simpa using hx
   subst e
   show List.lookup x ((if (k == NameKind.free&&env.scope.kind == .function&&env.kindOf x == some .cell)=true then(x,NameKind.cell) else(x,k))::_)=_
   split
   ·rename_i h
    simp only[List.lookup_cons,hx,Option.map_some]
    rw[if_pos h]
   ·rename_i h
    simp only[List.lookup_cons,hx,Option.map_some]
    rw[if_neg h]
  | false =>
   show List.lookup x ((if (k == NameKind.free&&env.scope.kind == .function&&env.kindOf n == some .cell)=true then(n,NameKind.cell) else(n,k))::_)=_
   split <;>simp only[List.lookup_cons,hx] <;>exact ih
structure CompOk (X:Cx)(scope:Scope)(caps:List Nat):Prop where
 kind:scope.kind=.function
 ncell:∀y∈scope.names,y.2=.cell→scope.names.lookup y.1=some .cell
 locs:∀y∈scope.names,y.2=.local→scope.names.lookup y.1=some .local
 free:∀y∈scope.names,y.2=.free→X.env.kindOf y.1=some .cell∨X.env.kindOf y.1=some .free
 caps:∀i∈caps,∃y,X.N[i]? = some y∧scope.names.lookup y=some .free
def capN (X:Cx)(own:List Str)(caps:List Nat):List Str:=own++caps.map fun i=>X.N.getD i Str.empty
def zbC (own:List Str)(caps:List Nat)(σ:St):St:=own.map (fun _=>none)++caps.map fun i=>(σ[i]?).getD none
def ownC (scope:Scope)(C:Addr):List (Str×Addr):=cellsFrom (C+1) scope.names []
def allC (scope:Scope)(env:Env)(C:Addr):List (Str×Addr):=ownC scope C++zar scope env
theorem jR:∀(names:List (Str×NameKind)) (n:Nat) (acc:List (Str×Addr)),cellsFrom n names acc=cellsFrom n names []++acc:=by
 intro names
 induction names with
 | nil=>intro n acc;rfl
 | cons y r ih =>
  obtain⟨x,k⟩:=y
  intro n acc
  unfold cellsFrom
  split
  ·rw[ih _ ((x,n)::acc),ih _ [(x,n)],List.append_assoc];rfl
  ·exact ih n acc
theorem zcj:∀(names:List (Str×NameKind)) (n:Nat) (x:Str) (c:Addr),(x,c)∈cellsFrom n names []→(x,NameKind.cell)∈names:=by
 intro names
 induction names with
 | nil=>intro n x c h;cases h
 | cons y r ih =>
  obtain⟨z,k⟩:=y
  intro n x c h
  unfold cellsFrom at h
  split at h
  ·rename_i hk
   rw[jR] at h
   rcases List.mem_append.mp h with h|h
   ·exact List.mem_cons_of_mem _ (ih _ _ _ h)
   ·have e:=List.mem_singleton.mp h
    injection e with e1 e2
    subst e1
    have ek:k=.cell:=by simpa using hk
    subst ek
    exact List.mem_cons_self
  ·exact List.mem_cons_of_mem _ (ih _ _ _ h)
theorem zb4 {l r:List (Str×Addr)}{x:Str}{c:Addr}(h:(l++r).lookup x=some c):l.lookup x=some c∨(l.lookup x=none∧r.lookup x=some c):=by
 rw[List.lookup_append] at h
 cases e:l.lookup x with
 | none=>rw[e] at h;exact .inr ⟨rfl,h⟩
 | some d=>rw[e] at h;exact .inl h
theorem lookup_l {l r:List (Str×Addr)}{x:Str}{c:Addr}(h:l.lookup x=some c):(l++r).lookup x=some c:=by rw[List.lookup_append,h];rfl
theorem lookup_r {l r:List (Str×Addr)}{x:Str}{c:Addr}(n:l.lookup x=none)(h:r.lookup x=some c):(l++r).lookup x=some c:=by rw[List.lookup_append,n];exact h
def cxC (X:Cx)(pins:List (Addr×Obj))(scope:Scope)(own:List Str)(caps:List Nat)(C:Addr)(ex:List Addr)(s:Shared)(H:Hp):Cx :=
 {X with N:=capN X own caps,s₀:=s,H₀:=H,env:=compEnvC scope (allC scope X.env C) C X.env,outer:=X.stack,ex:=ex,fn:=fun x=>scope.names.lookup x == some .cell,pn:=X.pn++pins,xe:=fun _ _=>False}
section
variable {X:Cx}{pins:List (Addr×Obj)}{σ:St}{H:Hp}{s:Shared}{scope:Scope}{own:List Str}{caps:List Nat}
theorem Inv.track {D:Addr}{o:HO} (I:Inv X pins σ H s) (hn:H D=none) (h0:D∈X.ex∨X.s₀.heap.objs.size≤D) (hL:D≠X.env.locals) (hc:∀x c,X.env.cells.lookup x=some c→c≠D) (hp:∀p∈X.pn++pins,p.1≠D)
  (new:ObjOk X.prog X.w (upd H D o) s.heap D o):Inv X pins σ (upd H D o) s:=by
 have ne:∀b u,H b=some u→b≠D:=fun b u e=>wL e hn
 have q := I.step (g':=s.gens) (t':=s.toks) (d':=s.drawn) (ch:=[D]) (h':=s.heap) (H':=upd H D o)
  (fun b hb => by have e:b=D:=by simpa using hb
                  subst e;exact⟨h0,hL,hc,hp⟩)
  (fun b o' _ _ _ e _=>e) (fun b o' _ _ _ e _=>⟨o'.slots,e⟩) (fun b o' hb _ n=>by rw[zJ (fun z=>hb (by simp[z]))];exact n) (fun b o' _ e=>⟨o',e⟩)
  (fun b xs e=>by rw[zJ (ne b _ e)];exact e) (fun b o' u e=>by rw[zJ (ne b _ e)];exact e) (fun b ps e=>⟨#[],by rw[zJ (ne b _ e),e];simp⟩) (fun m hm=>hm)
  (fun b u e=>by
   by_cases hb:b=D
   ·subst hb;rw[zM] at e;cases e;exact new
   ·rw[zJ hb] at e
    exact(I.hok b u e).stay (fun c v _ q=>q) (fun c q=>by rw[zJ (ne c _ q)];exact q) fun c xs q=>by rw[zJ (ne c _ q)];exact q) I.bare
 exact q
theorem CompOk.cells (ok:CompOk X scope caps)(I:Inv X pins σ H s):∀y∈scope.names,y.2=.free→∃c,X.env.cells.lookup y.1=some c:=fun y hy e=>I.ok.has y.1 (ok.free y hy e)
theorem Inv.block {h₁:Heap}{D C:Addr}{fp:List Addr}{m:Str→Option Value}{oD:Obj}{t:Nat}(ok:CompOk X scope caps)(I:Inv X pins σ H s)(hf:∀b∈fp,FpOk X pins H b)(hfo:∀b∈fp,∃o,s.heap.get? b=some o∧∀v,o.data≠.cell v)
  (hD:D=s.heap.objs.size) (hC:s.heap.objs.size≤C) (hDC:D≠C) (k:∀b u,s.heap.get? b=some u→h₁.get? b=some u) (hn:h₁.Ns C m) (hoD:h₁.get? D=some oD) (hdD:∀v,oD.data≠.cell v) (cok:CellsOk h₁ (C+1) (ownC scope C)) :
  Inv (cxC X pins scope own caps C fp s H) [(D,oD)] (zbC own caps σ) H {s with heap:=h₁,toks:=t}:=by
 have hcl:=ok.cells I
 have lk:∀x c,(zar scope X.env).lookup x=some c→X.env.cells.lookup x=some c∧(x,NameKind.free)∈scope.names:=fun x c e=>zb2 hcl (x,c) (PySem.mem_of_lookup e)
 have lA:∀x c,(allC scope X.env C).lookup x=some c→(C<c∧h₁.IsCell c none∧(x,c)∈ownC scope C)∨(zar scope X.env).lookup x=some c:=fun x c e=>by
  rcases zb4 e with e|⟨_,e⟩
  ·have m:=PySem.mem_of_lookup e
   exact .inl ⟨(cok.empty x c m).2,(cok.empty x c m).1,m⟩
  ·exact .inr e
 have lkC:∀x c,X.env.cells.lookup x=some c→c<C:=fun x c e=>by
  obtain⟨v,o,ho,_⟩:=I.cell x c e
  exact Nat.lt_of_lt_of_le (Heap.lt_size ho) hC
 have nst:∀b,b≠X.env.locals→b∉X.fs→b∉frs X.stack:=fun b h1 h2 hb=>by
  rcases List.mem_cons.mp (I.stkSub b hb) with e|e
  ·exact h1 e
  ·exact h2 e
 have kinds:∀x,((relabel scope X.env).names.lookup x=some .cell∨(relabel scope X.env).names.lookup x=some .free)→(x,NameKind.free)∈scope.names∨scope.names.lookup x=some .cell:=fun x hx=>by
  rw[jd] at hx
  cases e:scope.names.lookup x with
  | none=>rw[e] at hx;rcases hx with hx|hx <;>cases hx
  | some kd =>
   have hm:=PySem.mem_of_lookup e
   cases kd with
   | free=>exact .inl hm
   | cell=>exact .inr rfl
   | _=>rw[e] at hx;rcases hx with hx|hx <;>simp at hx
 refine⟨⟨I.ok.mod,ok.kind,I.ok.glob,I.ok.blt,hC,?_,?_,?_,I.ok.hd,I.ok.frames,.inl rfl,?_,I.bs,Nat.le_trans I.ok.bsz I.sz,?_,?_,I.stack,I.stkFree⟩,rfl,I.bare,Un.kept k,⟨m,hn,?_⟩,?_,I.hok.fresh hC,?_,?_,I.hok.kept k,?_⟩
 ·intro x y c h1 h2
  rcases lA x c h1 with⟨l1,_,m1⟩|h1 <;>rcases lA y c h2 with⟨l2,_,m2⟩|h2
  ·exact name_of_addr cok.apart m1 m2
  ·exact absurd (lkC y c (lk y c h2).1) (Nat.lt_asymm l1)
  ·exact absurd (lkC x c (lk x c h1).1) (Nat.lt_asymm l2)
  ·exact I.ok.inj x y c (lk x c h1).1 (lk y c h2).1
 ·intro x hx
  show ∃c,(allC scope X.env C).lookup x=some c
  cases e:(ownC scope C).lookup x with
  | some c=>exact⟨c,lookup_l e⟩
  | none =>
   rcases kinds x hx with h|h
   ·obtain⟨c,h⟩:=zbZ (env:=X.env) h
    exact⟨c,lookup_r e h⟩
   ·obtain⟨c,h⟩:=zaM (n:=C+1) h
    unfold ownC at e
    rw[h] at e;cases e
 ·intro x c hx e
  have hx:(scope.names.lookup x == some .cell)=true:=hx
  obtain⟨c',h⟩:=zaM (sc:=scope) (n:=C+1) (by simpa using hx)
  have e':=lookup_l (r:=zar scope X.env) h
  have e2:(allC scope X.env C).lookup x=some c:=e
  unfold allC ownC at e2
  rw[e'] at e2
  cases e2
  exact Nat.le_trans hC (Nat.le_trans (Nat.le_succ C) (cok.empty x _ (PySem.mem_of_lookup h)).2)
 ·intro b hb
  obtain⟨o,ho,_⟩:=hfo b hb
  refine⟨Nat.ne_of_lt (Nat.lt_of_lt_of_le (Heap.lt_size ho) hC),fun x c e=>?_⟩
  rcases lA x c e with⟨l,_,_⟩|e
  ·exact Nat.ne_of_gt (Nat.lt_trans (Nat.lt_of_lt_of_le (Heap.lt_size ho) hC) l)
  ·exact(hf b hb).2.2.2.2.1 x c (lk x c e).1
 ·intro b o e hb
  rcases(hf b hb).2.2.2.1 with z|z
  ·exact I.ok.noex b o e z
  ·exact absurd (Nat.lt_of_lt_of_le (Heap.lt_size e) (Nat.le_trans I.ok.bsz z)) (Nat.lt_irrefl _)
 ·exact fun b hb=>nst b (hf b hb).2.1 (hf b hb).2.2.1
 ·intro i x v h1 h2 h3
  have h1':(own++caps.map fun i=>X.N.getD i Str.empty)[i]? = some x:=h1
  unfold zbC at h2
  have hi:own.length≤i:=by
   apply Classical.byContradiction
   intro hlt
   rw[List.getElem?_append_left (by simpa using hlt),List.getElem?_map] at h2
   cases e:own[i]? with
   | none=>rw[e] at h2;cases h2
   | some y=>rw[e] at h2;cases h2
  rw[List.getElem?_append_right (by simpa using hi),List.getElem?_map,List.length_map] at h2
  rw[List.getElem?_append_right hi,List.getElem?_map] at h1'
  cases e:caps[i - own.length]? with
  | none=>rw[e] at h2;cases h2
  | some j =>
   rw[e] at h2 h1'
   have hx:X.N.getD j Str.empty=x:=Option.some.inj h1'
   have hv:(σ[j]?).getD none=some v:=Option.some.inj h2
   obtain⟨y,hy,hfr⟩:=ok.caps j (List.mem_of_getElem? e)
   have exy:x=y:=by rw[← hx,List.getD_eq_getElem?_getD,hy];rfl
   subst exy
   have hs:σ[j]? = some (some v):=by
    cases q:σ[j]? with
    | none=>rw[q] at hv;cases hv
    | some z=>rw[q] at hv;exact congrArg some hv
   have hfm:=PySem.mem_of_lookup hfr
   have hkd:=ok.free _ hfm rfl
   obtain⟨m',hn',hl⟩:=I.loc
   obtain⟨u,r,l⟩:=hl j x v hy hs (by rcases hkd with z|z;exact .inr (.inl z);exact .inr (.inr z))
   refine⟨u,r,.inr ⟨?_,?_⟩⟩
   ·show(relabel scope X.env).names.lookup x=some .cell∨(relabel scope X.env).names.lookup x=some .free
    rw[jd,hfr]
    simp only[Option.map_some]
    split
    ·exact .inl rfl
    ·exact .inr rfl
   ·rcases l with⟨hk,_⟩|⟨_,c,hc,o,ho,hd⟩
    ·rcases hkd with z|z <;>(rw[hk] at z;cases z)
    ·obtain ⟨c',hc'⟩:=zbZ (env:=X.env) hfm
     have e1:=(lk x c' hc').1
     rw[hc] at e1
     cases e1
     refine⟨c,lookup_r ?_ hc',o,k _ _ ho,hd⟩
     cases e3:(ownC scope C).lookup x with
     | none=>rfl
     | some c3 =>
      have h3:=ok.ncell _ (zcj _ _ _ _ (PySem.mem_of_lookup e3)) rfl
      rw[hfr] at h3;cases h3
 ·intro x c e
  rcases lA x c e with⟨_,h,_⟩|e
  ·exact⟨_,h⟩
  ·obtain⟨v,o,ho,hd⟩:=I.cell x c (lk x c e).1
   exact⟨v,o,k _ _ ho,hd⟩
 ·intro x c e
  rcases lA x c e with⟨l,_,_⟩|e
  ·exact I.hok.fresh (Nat.le_trans hC (Nat.le_of_lt l))
  ·exact I.freeC x c (lk x c e).1
 ·intro p hp
  rcases List.mem_append.mp hp with hp|hp
  ·obtain⟨a1,a2,a3,a4,a5⟩:=I.pin p hp
   exact⟨k _ _ a1,a2,Nat.ne_of_lt (Nat.lt_of_lt_of_le (Heap.lt_size a1) hC),nst _ a3 a4,a5⟩
  ·have e:p=(D,oD):=by simpa using hp
   subst e
   refine⟨hoD,I.hok.fresh (Nat.le_of_eq hD.symm),hDC,?_,hdD⟩
   refine nst D ?_ (I.nofs (Nat.le_of_eq hD.symm))
   exact Nat.ne_of_gt (by rw[hD];exact I.lt)
 ·show(zbC own caps σ).length=(capN X own caps).length
  simp[zbC,capN]
end
end L2
namespace L2
open PySem PySem.Spec PyProof.Rows
section
variable {prog:Program}{w:World}{A:Around}{R:Result→Shared→Prop}{s:Shared}
theorem zc3 {elt target iter:Expr}{ifs:List Expr}{scope:Scope}{pos:Pos}{it acc:Value}{env:Env}(I:Nat→Shared→Prop)
  (turn : ∀n s,I n s→wpAny (model prog w) A (pyNext it) (fun r s₁=>match r with
   | none=>R (.ok .next) s₁
   | some v=>wpAny (model prog w) A (letOwnedTupleGo target it v) (fun _ s₁'=>wpAny (model prog w) A (assign target env v) (fun _ s₂ =>
     wpAny (model prog w) A (forIn ifs true fun c r=>if r=true then do let ok ← isTrue c env (eval c env);pure (ForInStep.yield ok) else pure (ForInStep.yield r)) (fun ok s₃ =>
      if ok=true then wpAny (model prog w) A (eval elt env) (fun x s₄ =>
       wpAny (model prog w) A (call (.builtin "list.append") [acc,x]) (fun _ s₅=>∃m,m<n∧I m s₅) (fun _ _=>False) s₄) (fun _ _=>False) s₃
      else ∃m,m<n∧I m s₃) (fun _ _=>False) s₂) (fun _ _=>False) s₁') (fun _ _=>False) s₁) (fun _ _=>False) s)
  (n:Nat) (h:I n s) :
  codeAny (model prog w) A (.compLoop (.ListComp elt [⟨target,iter,ifs,0⟩] scope pos) 0 it acc env) R s:=by
 refine codeAny_loop rfl I (fun n s hI=>?_) n h
 show wpAny _ A ((compTurn (.ListComp elt [⟨target,iter,ifs,0⟩] scope pos) 0 it acc env).onRaise (fun x=>do noteFrame x env;theTreesLotGoes x)) _ _ s
 refine wpAny_noted ?_
 rw[compTurn_list]
 refine wpAny_bind (wpAny_standAt (wpAny_bind (wpAny_mono (turn n s hI) (fun r s₁ h₁=>?_) fun _ _ h'=>h'.elim)))
 cases r with
 | none=>exact wpAny_pure h₁
 | some v =>
  refine wpAny_bind (wpAny_mono h₁ (fun _ s₁' h₁'=>?_) fun _ _ h'=>h'.elim)
  refine wpAny_bind (wpAny_mono h₁' (fun _ s₂ h₂=>wpAny_bind (wpAny_mono h₂ (fun ok s₃ h₃=>?_) fun _ _ h'=>h'.elim)) fun _ _ h'=>h'.elim)
  cases ok with
  | false=>exact wpAny_pure ⟨rfl,h₃⟩
  | true =>
   exact wpAny_bind (wpAny_bind (wpAny_mono h₃ (fun x s₄ h₄=>wpAny_bind (wpAny_mono h₄ (fun _ s₅ h₅=>wpAny_pure (wpAny_pure ⟨rfl,h₅⟩)) fun _ _ h'=>h'.elim)) fun _ _ h'=>h'.elim))
end
def PTs (X:Cx)(ifs:List Expr)(t:TT):Prop :=
 ∀ (pins:List (Addr×Obj)) (s:Shared) (σ:St) (H:Hp) (Q:Bool→Hp→Prop),Inv X pins σ H s→t σ H Q →
  wpAny (model X.prog X.w) X.A (forIn ifs true fun c r=>if r=true then do let ok ← isTrue c X.env (eval c X.env);pure (ForInStep.yield ok) else pure (ForInStep.yield r)) (TP X pins σ Q) X.xe s
def v8:TT:=fun _ H Q=>Q true H
theorem zd4 {X:Cx}:PTs X [] v8:=fun pins s σ H Q I h=>wpAny_tests_nil ⟨H,I,h⟩
def Kps (σ σ':St):Prop:=σ'.length=σ.length∧∀(i:Nat) (v:V),σ[i]? = some (some v)→σ'[i]? = some (some v)
def zam (g:TG)(tt:TT)(te:TE)(σ0:St)(F:List V→Hp→Prop)(J:It)(H1:Hp):Prop :=
 ∃ W : Nat→Nat→List V→Hp→Prop,(∃m,W 0 m [] H1)∧∀i m ys H,W i m ys H→ys.length≤sizeLine ∧
  ((J.stop i H∧F ys H)∨(J.go i H∧ys.length<sizeLine∧∃N:List V→Hp→Prop,(∀ys' H',N ys' H'→∃m',m'<m∧W (i+1) m' ys' H') ∧
    ∀x H',J.yld i H x H'→g x σ0 H' fun σ2 H2=>Kps σ0 σ2∧tt σ2 H2 fun b H3=>if b=true then te σ2 H3 fun y H4=>N (ys++[y]) H4 else N ys H3))
def tComp (wi:TI)(g:TG)(tt:TT)(te:TE)(own:List Str)(caps:List Nat):TE:=fun σ H Q=>wi σ H fun J H1=>zam g tt te (zbC own caps σ) (fun ys H'=>∀D,H' D=none→Q (.ref D) (upd H' D (.lst ys))) J H1
section
variable {X:Cx}{pins:List (Addr×Obj)}{σ:St}{H:Hp}{s:Shared}{scope:Scope}{own:List Str}{caps:List Nat}{elt tg iter:Expr}{ifs:List Expr}{wi:TI}{g:TG}{tt:TT}{te:TE}{pos:Pos}
structure CompIn (X:Cx)(scope:Scope)(own:List Str)(caps:List Nat)(tg:Expr)(ifs:List Expr)(elt:Expr)(g:TG)(tt:TT)(te:TE):Prop where
 tgt:∀pins C ex s H,PG (cxC X pins scope own caps C ex s H) tg g
 tst:∀pins C ex s H,PTs (cxC X pins scope own caps C ex s H) ifs tt
 elm:∀pins C ex s H,PE (cxC X pins scope own caps C ex s H) elt te
theorem zel {M:Model}{A:Around}{E:Value→Shared→Prop}{s:Shared}{scope:Scope}{g:Addr}{cl:List (Str×Addr)}{q:Str}{env:Env}{Q:Env→Shared→Prop}
  (h:∀h',h'.Ns s.heap.objs.size (fun _=>none)→(∀b o,s.heap.get? b=some o→h'.get? b=some o)→CellsOk h' (s.heap.objs.size+1) (ownC scope s.heap.objs.size) →
   Q (newEnv scope s.heap.objs.size g (ownC scope s.heap.objs.size++cl) q none .none (some env) builtinsNs) {s with heap:=h'}) :
  wpAny M A (newFunctionEnv scope g cl [] q none .none (some env)) Q E s:=by
 simp only[newFunctionEnv,Option.isSome_some,if_true]
 refine wpAny_bind (wpAny_alloc ?_)
 refine wpAny_bind (wpAny_layCells _ (fun name kind cells=>by cases hkc:kind == NameKind.cell <;>simp[hkc]) _ _ _ _ ?_)
 have ok:=cellsFrom_ok scope.names (s.heap.push {cls:=.type "dict", data:=.dict #[]}) (s.heap.objs.size+1) [] ⟨fun _ _ hm=>(nomatch hm),List.Pairwise.nil⟩ (by rw[Heap.size_push];exact Nat.le_refl _)
 rw[Heap.size_push] at ok
 rw[show({s with heap:=s.heap.push {cls:=.type "dict", data:=.dict #[]} }:Shared).heap.objs.size=s.heap.objs.size+1 from Heap.size_push ..]
 rw[jR,List.forIn_nil]
 refine wpAny_bind (wpAny_pure (wpAny_pure ?_))
 exact h _ ((Heap.Ns.new s.heap (.type "dict")).keeps (pushCells_keeps _ _)) (fun b o e=>pushCells_keeps _ _ b o (Heap.get?_push_of_some _ e)) ok
theorem zdf {use:Option (Value→Sem Unit)}{Qv:Value→Shared→Prop}{F:List V→Hp→Prop}(ok:CompOk X scope caps)(hc:X.calm=true)(hi:PI X tg iter wi)(CI:CompIn X scope own caps tg ifs elt g tt te)(I:Inv X pins σ H s)
  (h:wi σ H fun J H1=>zam g tt te (zbC own caps σ) F J H1)
  (fin:∀(D C:Addr) (ys:List V) (H':Hp) (s1:Shared) (m:Str→Option Value),Inv X pins σ (upd H' D (.lst ys)) s1→H' D=none→F ys H'→s1.heap.Ns C m→H' C=none→C≠D→C≠X.env.locals→C∉X.fs→X.s₀.heap.objs.size≤C →
   (∀x c,X.env.cells.lookup x=some c→c≠C)→(∀p∈X.pn++pins,p.1≠C)→compPost (model X.prog X.w) X.A X.xe use Qv (.ref D) C (.ok .next) s1)
  (hs:∀x,foldedSetIterable iter X.env x=pure x:=by intro _;rfl) :
  wpAny (model X.prog X.w) X.A (comprehension (.ListComp elt [⟨tg,iter,ifs,0⟩] scope pos) scope X.env (firstIterPos [⟨tg,iter,ifs,0⟩] pos) (newList []) false (eval iter X.env) use) Qv X.xe s:=by
 refine wpAny_comprehension_free rfl hs (zch (ok.cells I)) ok.kind ok.locs (thn (hi pins s σ H _ I h) fun v s1 h1=>thn h1 fun itv s2 h2=>?_)
 obtain⟨it,fp,tn,J,H2,e,I2,T,st2,f2,W,⟨m0,w0⟩,turn⟩:=h2
 subst e
 refine wpAny_newObj_type (zel (fun h₁ hns₁ hsb₁ cok=>?_))
 dsimp only at hns₁ hsb₁ cok ⊢
 generalize hH2:s2.heap.push {cls:=.type "list", dict:=none,data:=.seq ([]:List Value).toArray}=HH at hns₁ hsb₁ cok ⊢
 have hCs:HH.objs.size=s2.heap.objs.size+1:=by rw[← hH2,Heap.size_push]
 have hDC:s2.heap.objs.size≠HH.objs.size:=by rw[hCs];exact Nat.ne_of_lt (Nat.lt_succ_self _)
 have hC:s2.heap.objs.size≤HH.objs.size:=by rw[hCs];exact Nat.le_succ _
 have old:∀b o,s2.heap.get? b=some o→h₁.get? b=some o:=fun b o e =>
  hsb₁ b o (hH2▸Heap.get?_push_of_some _ e)
 have hoD:h₁.get? s2.heap.objs.size=some {cls:=.type "list", data:=.seq ([]:List Value).toArray}:=hsb₁ _ _ (hH2▸Heap.get?_push_size _ rfl)
 have fo:∀b∈fp,∃o,s2.heap.get? b=some o∧∀v,o.data≠.cell v:=T.obj _ _ st2
 have I4:=Inv.block (own:=own) (t:=s2.toks) ok I2 f2 fo rfl hC hDC old hns₁ hoD (fun v z=>by cases z) cok
 have st4:tn 0 h₁:=T.keep _ _ _ st2 fun b _ o e=>old b o e
 have hDfp:∀b∈fp,b≠s2.heap.objs.size:=fun b hb=>by obtain⟨o,ho,_⟩:=fo b hb;exact Nat.ne_of_lt (Heap.lt_size ho)
 have hCfp:∀b∈fp,b≠HH.objs.size:=fun b hb=>by obtain⟨o,ho,_⟩:=fo b hb;exact Nat.ne_of_lt (Nat.lt_of_lt_of_le (Heap.lt_size ho) hC)
 have pnD:∀p∈X.pn++pins,p.1≠s2.heap.objs.size:=fun p hp=>Nat.ne_of_lt (Heap.lt_size (I2.pin p hp).1)
 have pnC:∀p∈X.pn++pins,p.1≠HH.objs.size:=fun p hp=>Nat.ne_of_lt (Nat.lt_of_lt_of_le (Heap.lt_size (I2.pin p hp).1) hC)
 have clX:∀x c,X.env.cells.lookup x=some c→c<s2.heap.objs.size:=fun x c e=>by obtain⟨v,o,ho,_⟩:=I2.cell x c e;exact Heap.lt_size ho
 have cl:∀x c,(allC scope X.env HH.objs.size).lookup x=some c→X.env.cells.lookup x=some c∨HH.objs.size<c:=fun x c e=>by
  rcases zb4 e with e|⟨_,e⟩
  ·exact .inr (cok.empty x c (PySem.mem_of_lookup e)).2
  ·exact .inl (zb2 (ok.cells I) (x,c) (PySem.mem_of_lookup e)).1
 have YA:(cxC X pins scope own caps HH.objs.size fp s2 H2).env=compEnvC scope (allC scope X.env HH.objs.size) HH.objs.size X.env:=rfl
 have stat:∀{H':Hp}{oD:Obj},(∀b∈fp,H' b=none)→∀b∈fp,FpOk (cxC X pins scope own caps HH.objs.size fp s2 H2) [(s2.heap.objs.size,oD)] H' b:=fun {H' oD} hn b hb=>by
  refine⟨hn b hb,hCfp b hb,?_,.inl hb,fun x c e=>?_,fun p hp=>?_⟩
  ·intro z
   rcases List.mem_cons.mp (I2.stkSub b z) with e|e
   ·exact(f2 b hb).2.1 e
   ·exact(f2 b hb).2.2.1 e
  ·rcases cl x c e with e|e
   ·exact(f2 b hb).2.2.2.2.1 x c e
   ·obtain⟨o,ho,_⟩:=fo b hb
    exact Nat.ne_of_gt (Nat.lt_trans (Nat.lt_of_lt_of_le (Heap.lt_size ho) hC) e)
  ·rcases List.mem_append.mp hp with hp|hp
   ·exact(f2 b hb).2.2.2.2.2 p hp
   ·have e:p=(s2.heap.objs.size,oD):=by simpa using hp
    subst e
    exact(hDfp b hb).symm
 have loop:∀s₃:Shared,s₃={s2 with heap:=h₁} →
   codeAny (model X.prog X.w) X.A (.compLoop (.ListComp elt [⟨tg,iter,ifs,0⟩] scope pos) 0 (.ref it) (.ref s2.heap.objs.size) (compEnvC scope (allC scope X.env HH.objs.size) HH.objs.size X.env)) (compPost (model X.prog X.w) X.A X.xe use Qv (.ref s2.heap.objs.size) HH.objs.size) s₃:=by
  rintro s₃ rfl
  refine zc3 (fun n s'=>∃i ys its c H',Inv (cxC X pins scope own caps HH.objs.size fp s2 H2) [(s2.heap.objs.size,{cls:=.type "list", data:=.seq its.toArray c})] (zbC own caps σ) H' s'∧Vals ys its∧tn i s'.heap∧(∀b∈fp,H' b=none)∧W i n ys H') ?_ m0
   ⟨0,[],[],0,H2,I4,.nil,st4,fun b hb=>(f2 b hb).1,w0⟩
  rintro n s' ⟨i,ys,its,c,H',I',rv,st',fr',w'⟩
  obtain⟨hz,hcase⟩:=turn i n ys H' w'
  rcases hcase with⟨stop,qF⟩|⟨go,hlt,N,hN,step⟩
  ·refine thn (T.done (cxC X pins scope own caps HH.objs.size fp s2 H2) rfl rfl rfl hc i _ s' _ H' _ I' (stat fr') st' stop) fun r s1 hq28=>?_
   obtain⟨hr,I1⟩:=hq28
   subst hr
   obtain⟨m1,hn1,_⟩:=I1.loc
   obtain⟨pD,nD,_⟩:=I1.pin _ (List.mem_append_right _ (List.mem_singleton.mpr rfl))
   have J1:Inv X pins σ H' s1:=I2.call' I1.os I1.base I1.hok I1.bare fun b hb=>⟨(f2 b hb).2.2.2.1,(f2 b hb).2.1,(f2 b hb).2.2.2.2.1,(f2 b hb).2.2.2.2.2⟩
   have J2:Inv X pins σ (upd H' s2.heap.objs.size (.lst ys)) s1:=J1.track nD (.inr I2.sz) (Nat.ne_of_gt I2.lt) (fun x c e=>Nat.ne_of_lt (clX x c e)) pnD ⟨hz,its,c,rv,pD⟩
   exact fin _ _ ys H' s1 m1 J2 nD qF hn1 I1.free hDC.symm (Nat.ne_of_gt (Nat.lt_of_lt_of_le I2.lt hC)) (I2.nofs hC) (Nat.le_trans I2.sz hC) (fun x c e=>Nat.ne_of_lt (Nat.lt_of_lt_of_le (clX x c e) hC)) pnC
  ·refine thn (T.item (cxC X pins scope own caps HH.objs.size fp s2 H2) rfl rfl rfl hc i _ s' _ H' _ I' (stat fr') st' go) fun r s1 hq29=>?_
   obtain⟨u,hr,h1⟩:=hq29
   subst hr
   refine thn h1 fun _ s2' hq30=>?_
   obtain⟨x,H5,I5,r5,y5,st5,fr5⟩:=hq30
   have I5':=I5.pinned (stat fr5) (T.obj _ _ st5)
   refine thn (CI.tgt pins _ _ _ _ _ s2' _ H5 x u _ I5' r5 (step x H5 y5)) fun _ s6 hq31=>?_
   obtain⟨σ6,H6,I6,kp6,q6⟩:=hq31
   refine thn (CI.tst pins _ _ _ _ _ s6 σ6 H6 _ I6 q6) fun b s7 hq32=>?_
   obtain⟨H7,I7,q7⟩:=hq32
   have again:∀{H8:Hp}{s8:Shared}{ys':List V}{its':List Value}{c':Nat},Inv (cxC X pins scope own caps HH.objs.size fp s2 H2) ([(s2.heap.objs.size,{cls:=.type "list", data:=.seq its'.toArray c'})]++zbm fp s2'.heap) σ6 H8 s8→Vals ys' its'→N ys' H8 →
     ∃m,m<n∧∃i ys its c H',Inv (cxC X pins scope own caps HH.objs.size fp s2 H2) [(s2.heap.objs.size,{cls:=.type "list", data:=.seq its.toArray c})] (zbC own caps σ) H' s8∧Vals ys its∧tn i s8.heap∧(∀b∈fp,H' b=none)∧W i m ys H':=by
    intro H8 s8 ys' its' c' I8 rv' n8
    obtain⟨m',hm,w8⟩:=hN ys' H8 n8
    refine⟨m',hm,i+1,ys',its',c',H8,I8.unpinned.weak kp6.1.symm kp6.2,rv',T.keep _ _ _ st5 fun b hb o e=>(I8.pin (b,o) (List.mem_append_right _ (List.mem_append_right _ (qW hb e)))).1,fun b hb=>?_,w8⟩
    obtain⟨o,e,d⟩:=T.obj _ _ st5 b hb
    exact(I8.pin (b,o) (List.mem_append_right _ (List.mem_append_right _ (qW hb e)))).2.1
   cases b with
   | false=>exact again I7 rv q7
   | true =>
    refine thn (CI.elm pins _ _ _ _ _ s7 σ6 H7 _ I7 q7) fun yv s8 hq33=>?_
    obtain⟨y,H8,I8,r8,q8⟩:=hq33
    obtain⟨pD,nD,ncD,nfD,_⟩:=I8.pin (s2.heap.objs.size,{cls:=.type "list", data:=.seq its.toArray c}) (List.mem_append_right _ (List.mem_append_left _ (List.mem_singleton.mpr rfl)))
    have hlen:=rv.length
    refine call_meets PySem.F.slot_list_append ⟨_,pD,rfl⟩ PySem.F.entry_list_append (PySem.F.args_list_append_2 _ _) (PySem.list_append s2.heap.objs.size its.toArray c yv (by rw[List.size_toArray];omega)) ⟨pD,?_⟩
    have ef:its.toArray.push yv=(its++[yv]).toArray:=by simp
    obtain⟨c',q⟩:∃c',(s8.heap.update s2.heap.objs.size (Obj.mapSeq fun xs=>xs.push yv)).get? s2.heap.objs.size=some {cls:=.type "list", data:=.seq (its++[yv]).toArray c'}:=⟨_,by rw[← ef];exact PySem.IsL.update pD (fun xs=>xs.push yv)⟩
    have keepB:∀b o,b≠s2.heap.objs.size→s8.heap.get? b=some o→(s8.heap.update s2.heap.objs.size (Obj.mapSeq fun xs=>xs.push yv)).get? b=some o:=fun b o hb e=>(Heap.get?_update_other s8.heap _ (Ne.symm hb)).trans e
    have I9:Inv (cxC X pins scope own caps HH.objs.size fp s2 H2) (zbm fp s2'.heap) σ6 H8 s8:=I8.pins_of fun p hp=>I8.pin p (List.mem_append_right _ (List.mem_append_right _ hp))
    have I10:Inv (cxC X pins scope own caps HH.objs.size fp s2 H2) (zbm fp s2'.heap) σ6 H8 {s8 with heap:=s8.heap.update s2.heap.objs.size (Obj.mapSeq fun xs=>xs.push yv)}:=by
     refine I9.turned (t':=s8.toks) (it:=s2.heap.objs.size) keepB nD ncD (.inr (Nat.le_refl _)) (fun x c e=>(cl x c e).elim (fun e=>Nat.ne_of_lt (clX x c e)) fun e=>Nat.ne_of_gt (Nat.lt_of_le_of_lt hC e)) fun p hp=>?_
     rcases List.mem_append.mp hp with hp|hp
     ·exact pnD p hp
     ·exact hDfp _ (zdm hp).1
    refine again (its':=its++[yv]) (c':=c') (I10.pins_of fun p hp=>?_) (rv.append (.cons r8 .nil)) q8
    rcases List.mem_append.mp hp with hp|hp
    ·have e:=List.mem_singleton.mp hp
     subst e
     exact⟨q,nD,ncD,nfD,fun v z=>by cases z⟩
    ·exact I10.pin p (List.mem_append_right _ hp)
 exact codeAny_compStart_list (loop _ rfl) (T.self _ 0 _ _ _ st4 (loop _ rfl))
theorem zcr (ok:CompOk X scope caps)(hc:X.calm=true)(hi:PI X tg iter wi)(CI:CompIn X scope own caps tg ifs elt g tt te)(hs:∀x,foldedSetIterable iter X.env x=pure x:=by intro _;rfl) :
  PE X (.ListComp elt [⟨tg,iter,ifs,0⟩] scope pos) (tComp wi g tt te own caps):=by
 intro pins s σ H Q I h
 rw[eval_ListComp]
 refine zdf (use:=none) ok hc hi CI I h (fun D C ys H' s1 m I1 nD q hn nC hCD hCL hCf hC0 hCc hCp=>?_) hs
 refine⟨m,hn,fun h' hsb=>?_⟩
 have I2:Inv X pins σ (upd H' D (.lst ys)) {s1 with heap:=h'}:=I1.turned (t':=s1.toks) (it:=C) (fun b o hb e=>hsb.extBut b o hb e) (by rw[zJ hCD];exact nC) hCL (.inr hC0) hCc hCp
 exact⟨.ref D,_,I2,rfl,q D nD⟩
def sComp (j:Nat)(wi:TI)(g:TG)(tt:TT)(te:TE)(own:List Str)(caps:List Nat):TS:=fun E σ H=>wi σ H fun J H1=>zam g tt te (zbC own caps σ) (fun ys H'=>∀D,H' D=none→E.nx (σ.set j (some (.ref D))) (upd H' D (.lst ys))) J H1
theorem zd2 {j:Nat}{y:Str}{py spos:Pos}(hN:X.N.Nodup)(hj:X.N[j]? = some y)(hy:X.env.scope.names.lookup y=some .local)(ok:CompOk X scope caps)(hc:X.calm=true)(hi:PI X tg iter wi)(CI:CompIn X scope own caps tg ifs elt g tt te)
  (hsw:swapsWith (.ListComp elt [⟨tg,iter,ifs,0⟩] scope pos) (some (.Name y py)) spos.line X.env=pure true) (hs:∀x,foldedSetIterable iter X.env x=pure x:=by intro _;rfl) :
  PS X (.Assign [.Name y py] (.ListComp elt [⟨tg,iter,ifs,0⟩] scope pos) spos) (sComp j wi g tt te own caps):=by
 intro pins s σ H E I h
 rw[exec_Assign_Name_used _ _ _ _ hsw]
 refine wpAny_bind (wpAny_standAt (wpAny_bind ?_))
 show wpAny _ X.A (do let _ ← comprehension (.ListComp elt [⟨tg,iter,ifs,0⟩] scope pos) scope X.env _ (newList []) false (eval iter X.env) (some (assign (.Name y py) X.env))) _ _ s
 refine wpAny_bind (wpAny_mono (zdf (use:=some (assign (.Name y py) X.env)) (Qv:=fun _ s'=>SP X pins E .next s') ok hc hi CI I h (fun D C ys H' s1 m I1 nD q hn nC hCD hCL hCf hC0 hCc hCp=>?_) hs) (fun _ s' hq=>wpAny_pure (wpAny_pure hq)) fun _ _ e=>e)
 obtain⟨oC,es,ep,eC,dC,rC⟩:=id hn
 have I2:Inv X (pins++[(C,oC)]) σ (upd H' D (.lst ys)) s1:=I1.pins_of fun p hp=>by
  rcases List.mem_append.mp hp with hp|hp
  ·exact I1.pin p (List.mem_append_right _ hp)
  ·have e:=List.mem_singleton.mp hp
   subst e
   exact⟨eC,by rw[zJ hCD];exact nC,hCL,hCf,fun v z=>by rw[dC] at z;cases z⟩
 show wpAny _ X.A (assign (.Name y py) X.env (.ref D)) _ _ s1
 refine wpAny_assign_Name (zcn (v:=.ref D) I2 hN hj (.inl hy) rfl (fun s2 I3=>?_) (.inr hy))
 obtain⟨e3,n3,_⟩:=I3.pin (C,oC) (List.mem_append_right _ (List.mem_append_right _ (List.mem_singleton.mpr rfl)))
 have I4:Inv X pins (σ.set j (some (.ref D))) (upd H' D (.lst ys)) s2:=I3.pins_of fun p hp=>I3.pin p (List.mem_append_right _ (List.mem_append_left _ hp))
 refine⟨m,⟨oC,es,ep,e3,dC,rC⟩,fun h' hsb=>?_⟩
 have I5:Inv X pins (σ.set j (some (.ref D))) (upd H' D (.lst ys)) {s2 with heap:=h'}:=I4.turned (t':=s2.toks) (it:=C) (fun b o hb e=>hsb.extBut b o hb e) n3 hCL (.inr hC0) hCc hCp
 exact⟨_,_,I5,q D nD⟩
end
end L2
namespace L2
open PySem PySem.Spec PyProof.Rows
def T (l:List Nat):Str:=⟨l.toArray⟩
theorem zbD (l:List Nat):(T l).cps.toList=l:=by simp[T]
theorem T_of (x:Str):T x.cps.toList=x:=by cases x;simp[T]
theorem zaC (l:List Nat):(T l).length=l.length:=by simp[T,Str.length]
theorem T_app (l m:List Nat):T l++T m=T (l++m):=by
 show Str.append (T l) (T m)=_
 simp[Str.append,T]
theorem T_inj {l m:List Nat}(h:T l=T m):l=m:=by
 have:=congrArg (fun x:Str=>x.cps.toList) h
 simpa [T] using this
theorem T_beq (l m:List Nat):(T l == T m)=(l == m):=by
 rw[Bool.eq_iff_iff]
 simp only[beq_iff_eq]
 exact⟨T_inj,congrArg T⟩
theorem jL {l:List Nat}(h:∀c∈l,c<0x110000)(hl:l.length≤1000000):TxtOk (T l):=by
 refine⟨?_,by rw[zaC];exact hl⟩
 show(T l).cps.all (· < 0x110000)=true
 simp only[T,List.all_toArray,List.all_eq_true,decide_eq_true_eq]
 exact h
theorem TxtOk.app {x y:Str}(hx:TxtOk x)(hy:TxtOk y)(hl:x.length+y.length≤1000000):TxtOk (x++y):=by
 obtain⟨a,_⟩:=hx
 obtain⟨b,_⟩:=hy
 refine⟨?_,?_⟩
 ·have a':x.cps.all (· < 0x110000)=true:=a
  have b':y.cps.all (· < 0x110000)=true:=b
  show(x.cps++y.cps).all (· < 0x110000)=true
  rw[Array.all_append,a',b'];rfl
 ·show(x.cps++y.cps).size≤1000000
  rw[Array.size_append];exact hl
theorem clip_nat (lo:Option Int)(n d:Nat)(hd:d≤n):(match lo with|none=>(d:Int)|some i=>max 0 (min (if i<0 then i+(n:Int) else i) (n:Int)))=((HT.sIx n d lo:Nat):Int):=by
 cases lo with
 | none=>rfl
 | some i =>
  show max 0 (min (if i<0 then i+(n:Int) else i) (n:Int))=(((if i<0 then(i+(n:Int)).toNat else min i.toNat n):Nat):Int)
  split <;>omega
theorem slice_T (x:Str)(lo hi:Option Int):Txt.slice x lo hi=T ((x.cps.toList.drop (HT.sIx x.length 0 lo)).take (HT.sIx x.length x.length hi - HT.sIx x.length 0 lo)):=by
 have ha:HT.sIx x.length 0 lo≤x.length:=HT.sIx_le _ _ (Nat.zero_le _) lo
 have hb:HT.sIx x.length x.length hi≤x.length:=HT.sIx_le _ _ (Nat.le_refl _) hi
 have e:Builtin.Str.strSliceIndices lo hi 1 x.length=Builtin.Str.strSliceIndices (some ((HT.sIx x.length 0 lo:Nat):Int)) (some ((HT.sIx x.length x.length hi:Nat):Int)) 1 x.length:=by
  have h1:=clip_nat lo x.length 0 (Nat.zero_le _)
  have h2:=clip_nat hi x.length x.length (Nat.le_refl _)
  generalize HT.sIx x.length 0 lo=a at *
  generalize HT.sIx x.length x.length hi=b at *
  have k1:max 0 (min (if (a:Int)<0 then(a:Int)+(x.length:Int) else(a:Int)) (x.length:Int))=(a:Int):=by split <;>omega
  have k2:max 0 (min (if (b:Int)<0 then(b:Int)+(x.length:Int) else(b:Int)) (x.length:Int))=(b:Int):=by split <;>omega
  unfold Builtin.Str.strSliceIndices
  simp only[show(1:Int) > 0 by decide,if_true,k1,k2]
  cases lo <;>cases hi <;>simp only at h1 h2 ⊢ <;>first|rw[h1,h2] | (rw[← h1,← h2];rfl)
 have e2:Txt.slice x lo hi=StrLaws.sliceText x (some ((HT.sIx x.length 0 lo:Nat):Int)) (some ((HT.sIx x.length x.length hi:Nat):Int)):=by
  unfold Txt.slice StrLaws.sliceText
  rw[e]
 rw[e2]
 by_cases hab:HT.sIx x.length 0 lo≤HT.sIx x.length x.length hi
 ·exact StrLaws.sliceText_nat x hab hb
 ·have hz:HT.sIx x.length x.length hi - HT.sIx x.length 0 lo=0:=by omega
  rw[hz,List.take_zero]
  generalize HT.sIx x.length 0 lo=a at *
  generalize HT.sIx x.length x.length hi=b at *
  have k1:max 0 (min (if (a:Int)<0 then(a:Int)+(x.length:Int) else(a:Int)) (x.length:Int))=(a:Int):=by split <;>omega
  have k2:max 0 (min (if (b:Int)<0 then(b:Int)+(x.length:Int) else(b:Int)) (x.length:Int))=(b:Int):=by split <;>omega
  have e3:Builtin.Str.strSliceIndices (some (a:Int)) (some (b:Int)) 1 x.length=[]:=by
   unfold Builtin.Str.strSliceIndices sliceRange
   simp only[show(1:Int) > 0 by decide,if_true,k1,k2]
   have:¬((b:Int) > (a:Int)):=by omega
   simp[this]
   try omega
  unfold StrLaws.sliceText
  rw[e3]
  simp only[List.length_nil,List.filterMap_nil]
  split
  ·rename_i h
   have hn:x.length=0:=by
    simp at h
    omega
   omega
  ·rfl
section
variable {X:Cx}{e:Expr}{te:TE}{pos p2:Pos}
def rSlS:V→Option Int→Option Int→Hp→VK→Prop:=fun x lo hi H Q=>∃z,x=.str z∧z.length≤sizeLine∧Q (.str (T ((z.cps.toList.drop (HT.sIx z.length 0 lo)).take (HT.sIx z.length z.length hi - HT.sIx z.length 0 lo)))) H
theorem part_of {v:Value}{o:Option Int}(p:IsPart v o):∃q:Option (Int×Tok),v=partValue q∧q.map (·.1)=o:=by
 cases p with
 | none=>exact⟨none,rfl,rfl⟩
 | int i t=>exact⟨some (i,t),rfl,rfl⟩
theorem sl_str:SlR X rSlS:=by
 intro pins s σ H x v vl vu lo hi sl Q I rx hs pl pu h
 obtain⟨z,rfl,hz,q⟩:=h
 obtain⟨t,rfl⟩:=rx
 obtain⟨l,rfl,rfl⟩:=part_of pl
 obtain⟨u,rfl,rfl⟩:=part_of pu
 refine⟨"str", _,PySem.F.slot_str_getitem.lookup,typeIs_str _ _ _,?_⟩
 refine wpAny_getItem_str_slice (l:=l) (u:=u) (st:=none) hs rfl ?_
 refine post_val_or_str (y:=z) ?_
 have e:=slice_T z (l.map (·.1)) (u.map (·.1))
 unfold Txt.slice at e
 refine⟨Nat.le_trans (Txt.slice_le z (l.map (·.1)) (u.map (·.1))) hz,fun t' k=>⟨.str _,H,I.tok _,⟨t',?_⟩,q⟩⟩
 exact congrArg (fun y=>Value.str y t') e
def Its (x:Str):It:=⟨fun i _=>i<x.cps.size,fun i H v H'=>H'=H∧∃c,x.cps.toList[i]? = some c∧v=.str (T [c]),fun i _=>x.cps.size≤i⟩
theorem turn_str {P:Program}{w:World}{K:PySem.W.Frag}{tg:Expr}{x:Str}{t:Tok}{ty:String}(it:Addr)(W:∀A':Around,A'.handled=none→Walks P w A' it [it] [it] x.cps.size (SignAt x) (fun i h=>h.IsStrIter it ty x t i))
  (hn:["enumerate", "zip", "dict_itemiterator", "dict_reverseitemiterator", "odict_iterator", "itertools.zip_longest", "itertools.pairwise"].contains ty=false)
  (hend:∀(A:Around) (i:Nat) (s:Shared) (Q:Option Value→Shared→Prop) (E:Value→Shared→Prop),A.handled=none→s.heap.IsStrIter it ty x t i→x.cps[i]? = none→(∀h',Heap.ExtBut it s.heap h'→Q none {s with heap:=h'})→wpAny (model P w) A (pyNext (.ref it)) Q E s)
  (hself:∀(A:Around) (i:Nat) (s:Shared) (Q:Value→Shared→Prop) (E:Value→Shared→Prop),s.heap.IsStrIter it ty x t i→Q (.ref it) s→wpAny (model P w) A (pyIter (.ref it)) Q E s) :
  Turn P w K tg (Its x) [it] it (fun i h=>h.IsStrIter it ty x t i) where
 mem:=by simp
 obj:=fun i h st b hb=>by
  have e:b=it:=by simpa using hb
  subst e
  obtain⟨o,e,c,d⟩:=st
  exact⟨o,e,fun v z=>by rw[d] at z;cases z⟩
 keep:=fun i h h' st k=>by obtain⟨o,e,r⟩:=st;exact⟨o,k it (by simp) o e,r⟩
 item:=by
  intro X hP hw hK hc i pins s σ H E I hf st hg
  subst hP hw hK
  obtain⟨f0,f1,f2,f3,f4,f5⟩:=hf it (by simp)
  refine(W X.A (I.ok.hd hc)).item i s _ _ hg st fun v h' tk hv st' kk=>?_
  obtain⟨c,u,hcc,rfl⟩:=hv
  have I1:Inv X pins σ H {s with heap:=h',toks:=tk}:=I.turned (fun b o hb e=>kk b o (by simpa using hb) e) f0 f1 f3 f4 f5
  obtain⟨o,e,c1,d1⟩:=id st'
  exact⟨_,rfl,go_of (s:={s with heap:=h',toks:=tk}) e c1 d1 hn ⟨.str (T [c]),H,I1,⟨u,rfl⟩,⟨rfl,c,by simpa using hcc,rfl⟩,st',fun b hb=>(hf b hb).1⟩⟩
 done:=by
  intro X hP hw hK hc i pins s σ H E I hf st hg
  subst hP hw hK
  obtain⟨f0,f1,f2,f3,f4,f5⟩:=hf it (by simp)
  have hge:x.cps.size≤i:=hg
  exact hend X.A i s _ _ (I.ok.hd hc) st (Array.getElem?_eq_none hge) fun h' eb=>⟨rfl,I.turned (t':=s.toks) (fun b o hb e=>eb b o hb e) f0 f1 f3 f4 f5⟩
 self:=fun A i s Q E st h=>hself A i s Q E st h
def iStr (tl:TE):TI:=fun σ H R=>tl σ H fun v H1=>∃x,v=.str x∧R (Its x) H1
theorem pi_str {tg l:Expr}{tl:TE}(hl:PE X l tl):PI X tg l (iStr tl):=by
 intro pins s σ H R I h
 refine thn (hl pins s σ H _ I h) fun v s1 hq34=>?_
 obtain⟨y,H1,I1,r1,q1⟩:=hq34
 obtain⟨x,e,q⟩:=q1
 subst e
 obtain⟨t,rfl⟩:=r1
 have fin:∀(ty:String) (T':Turn X.prog X.w X.K tg (Its x) [s1.heap.objs.size] s1.heap.objs.size (fun i h=>h.IsStrIter s1.heap.objs.size ty x t i)),
   PIE X pins σ tg R (.ref s1.heap.objs.size) {s1 with heap:=s1.heap.push {cls:=.type ty,data:=.fields #[.str x t,.int 0 0]} }:=fun ty T' =>
  ⟨s1.heap.objs.size,[s1.heap.objs.size],_,_,H1,rfl,I1.kept (t':=s1.toks) fun b o e=>Heap.get?_push_of_some _ e,T',⟨_,Heap.get?_push_size _ rfl,rfl,rfl⟩,fun b hb=>by
   have e:b=s1.heap.objs.size:=by simpa using hb
   subst e
   exact I1.fpOk (Nat.le_refl _) (I1.hok.fresh (Nat.le_refl _)),q⟩
 cases ha:x.cps.all (· < 128)
 ·exact wpAny_pyIter_wide ha (fin _ (turn_str _ (fun A' hA=>Walks.strWide hA _ x t) (by decide) (fun A i s Q E hh st hx hQ=>wpAny_pyNext_wide_end hh st hx hQ) fun A i s Q E st hq=>wpAny_pyIter_striter_wide st hq))
 ·exact wpAny_pyIter_ascii ha (fin _ (turn_str _ (fun A' hA=>Walks.strAscii hA _ x t) (by decide) (fun A i s Q E hh st hx hQ=>wpAny_pyNext_ascii_end hh st hx hQ) fun A i s Q E st hq=>wpAny_pyIter_striter_ascii st hq))
end
def Wlk (J:It)(G:Hp→Prop)(xs:List V):Prop:=∀H,G H→(∀i,i<xs.length→J.go i H∧∀x H',J.yld i H x H'→H'=H∧xs[i]? = some x)∧J.stop xs.length H
theorem wlk_list {K:PySem.W.Frag}{a:Addr}{xs:List V}:Wlk (Itl K a) (fun H=>SqL K H a xs) xs:=fun H q =>
 ⟨fun i hi=>⟨⟨xs,xs[i],q,by simp[hi]⟩,fun x H' y=>⟨y.1,y.2 xs q⟩⟩,⟨xs,q,Nat.le_refl _⟩⟩
theorem wlk_tup {K:PySem.W.Frag}{a:Addr}{xs:List V}:Wlk (Itt K a) (fun H=>SqT K H a xs) xs:=fun H q =>
 ⟨fun i hi=>⟨⟨xs,xs[i],q,by simp[hi]⟩,fun x H' y=>⟨y.1,y.2 xs q⟩⟩,⟨xs,q,Nat.le_refl _⟩⟩
theorem wlk_range {lo:Int}{n:Nat}{G:Hp→Prop}:Wlk (Itr lo n) G ((List.range n).map fun(k:Nat)=>V.int (lo+(k:Int))):=fun H _=>by
 refine⟨fun i hi=>⟨by show i<n;simpa using hi,fun x H' y=>⟨y.1,?_⟩⟩,?_⟩
 ·have hi':i<n:=by simpa using hi
  rw[y.2];simp[hi']
 ·show n≤_;simp
theorem wlk_str {x:Str}{G:Hp→Prop}:Wlk (Its x) G (x.cps.toList.map fun c=>V.str (T [c])):=fun H _=>by
 refine⟨fun i hi=>⟨by show i<x.cps.size;simpa using hi,fun v H' y=>⟨y.1,?_⟩⟩,?_⟩
 ·obtain⟨_,c,hc,rfl⟩:=y
  rw[List.getElem?_map,hc];rfl
 ·show x.cps.size≤_;simp
theorem zdX {J:It}{G:Hp→Prop}{xs:List V}(W:Wlk J G xs){g:TG}{tb:TS}{D:Ends}{σ:St}{H:Hp}(Pv:Nat→St→Hp→Prop)(h0:Pv 0 σ H)(hG:∀i σ H,i≤xs.length→Pv i σ H→G H)
  (hs:∀i x σ H,xs[i]? = some x→Pv i σ H→g x σ H fun σ2 H2=>tb {D with nx:=Pv (i+1),ct:=Pv (i+1),bk:=D.nx} σ2 H2) (hd:∀σ H,Pv xs.length σ H→D.nx σ H) :
  ∃ W:Nat→Nat→St→Hp→Prop,(∃m,W 0 m σ H)∧∀i m σ H,W i m σ H →
   (J.stop i H∧D.nx σ H)∨(J.go i H∧∃N:St→Hp→Prop,(∀σ' H',N σ' H'→∃m',m'<m∧W (i+1) m' σ' H')∧∀x H',J.yld i H x H'→g x σ H' fun σ2 H2=>tb {D with nx:=N,ct:=N,bk:=D.nx} σ2 H2):=by
 refine⟨fun i m σ H=>m=xs.length - i∧i≤xs.length∧Pv i σ H,⟨xs.length,by simp,Nat.zero_le _,h0⟩,?_⟩
 rintro i m σ H ⟨rfl,hi,p⟩
 obtain⟨w1,w2⟩:=W H (hG i σ H hi p)
 by_cases hlt:i<xs.length
 ·obtain⟨g1,g2⟩:=w1 i hlt
  refine .inr ⟨g1,Pv (i+1),fun σ' H' p'=>⟨xs.length - (i+1),by omega,rfl,hlt,p'⟩,fun x H' y=>?_⟩
  obtain⟨e,hx⟩:=g2 x H' y
  subst e
  exact hs i x σ _ hx p
 ·have e:i=xs.length:=by omega
  subst e
  exact .inl ⟨w2,hd σ H p⟩
theorem jP {J:It}{G:Hp→Prop}{xs:List V}(W:Wlk J G xs)(hz:xs.length≤sizeLine){g:TG}{tt:TT}{te:TE}{σ0:St}{F:List V→Hp→Prop}{H1:Hp}(Pv:Nat→List V→Hp→Prop)(h0:Pv 0 [] H1)(hG:∀i ys H,i≤xs.length→Pv i ys H→G H∧ys.length≤i)
  (hs:∀i x ys H,xs[i]? = some x→Pv i ys H→g x σ0 H fun σ2 H2=>Kps σ0 σ2∧tt σ2 H2 fun b H3=>if b=true then te σ2 H3 fun y H4=>Pv (i+1) (ys++[y]) H4 else Pv (i+1) ys H3) (hd:∀ys H,Pv xs.length ys H→F ys H) :
  zam g tt te σ0 F J H1:=by
 refine⟨fun i m ys H=>m=xs.length - i∧i≤xs.length∧Pv i ys H,⟨xs.length,by simp,Nat.zero_le _,h0⟩,?_⟩
 rintro i m ys H ⟨rfl,hi,p⟩
 obtain⟨gH,hl⟩:=hG i ys H hi p
 refine⟨by omega,?_⟩
 obtain⟨w1,w2⟩:=W H gH
 by_cases hlt:i<xs.length
 ·obtain⟨g1,g2⟩:=w1 i hlt
  refine .inr ⟨g1,by omega,Pv (i+1),fun ys' H' p'=>⟨xs.length - (i+1),by omega,rfl,hlt,p'⟩,fun x H' y=>?_⟩
  obtain⟨e,hx⟩:=g2 x H' y
  subst e
  exact hs i x ys _ hx p
 ·have e:i=xs.length:=by omega
  subst e
  exact .inl ⟨w2,hd ys H p⟩
theorem Kps.set {σ:St}{i:Nat}{v:V}(h:σ[i]? = some none):Kps σ (σ.set i (some v)):=by
 refine⟨by simp,fun j u e=>?_⟩
 by_cases hj:i=j
 ·subst hj;rw[h] at e;cases e
 ·rw[List.getElem?_set_ne hj];exact e
theorem Kps.trans {a b c:St}(h:Kps a b)(k:Kps b c):Kps a c:=⟨k.1.trans h.1,fun i v e=>k.2 i v (h.2 i v e)⟩
def Gat (K:PySem.W.Frag)(H1:Hp)(e:Nat→PyData)(i:Nat)(ys:List V)(H:Hp):Prop:=Same H1 H∧Iss K H ys ((List.range i).map e)
theorem Gat.snoc {K:PySem.W.Frag}{H1 H H4:Hp}{e:Nat→PyData}{i:Nat}{ys:List V}{y:V}(h:Gat K H1 e i ys H)(sm:Same H H4)(is:Is K H4 y (e i)):Gat K H1 e (i+1) (ys++[y]) H4:=by
 refine⟨h.1.trans sm,?_⟩
 rw[List.range_succ,List.map_append]
 exact(h.2.mono sm).append (.cons is .nil)
def GatF (K:PySem.W.Frag)(H1:Hp)(p:Nat→Bool)(e:Nat→PyData)(i:Nat)(ys:List V)(H:Hp):Prop:=Same H1 H∧Iss K H ys (((List.range i).filter p).map e)
theorem GatF.snoc {K:PySem.W.Frag}{H1 H H4:Hp}{p:Nat→Bool}{e:Nat→PyData}{i:Nat}{ys:List V}{y:V}(h:GatF K H1 p e i ys H)(hp:p i=true)(sm:Same H H4)(is:Is K H4 y (e i)):GatF K H1 p e (i+1) (ys++[y]) H4:=by
 refine⟨h.1.trans sm,?_⟩
 rw[List.range_succ,List.filter_append,List.map_append]
 refine(h.2.mono sm).append ?_
 simp only[List.filter_cons,hp,if_true,List.filter_nil,List.map_cons,List.map_nil]
 exact .cons is .nil
end L2
namespace L2
open PySem PySem.Spec PyProof.Rows
section
variable {X:Cx}
theorem old_ne {s:Shared}{b:Addr}{o:Obj}(e:s.heap.get? b=some o):b∉[s.heap.objs.size]:=fun z=>by
 have e':b=s.heap.objs.size:=by simpa using z
 subst e'
 exact absurd (Heap.lt_size e) (Nat.lt_irrefl _)
theorem zew:∀{bs:List Bool}{us:List Value},Vals (bs.map V.bl) us→us=bs.map Value.bool
 | [],_,r=>by cases r;rfl
 | b::bs,_,r=>by
  cases r with
  | cons r t=>cases r;rw[zew t];rfl
theorem range_all {α:Type}(l:List α)(d:α)(p:α→Bool):(List.range l.length).all (fun i=>p (l.getD i d))=l.all p:=by
 have:(List.range l.length).map (fun i=>l.getD i d)=l:=range_getD l d
 conv=>rhs;rw[← this]
 rw[List.all_map];rfl
theorem range_any {α:Type}(l:List α)(d:α)(p:α→Bool):(List.range l.length).any (fun i=>p (l.getD i d))=l.any p:=by
 have:(List.range l.length).map (fun i=>l.getD i d)=l:=range_getD l d
 conv=>rhs;rw[← this]
 rw[List.any_map];rfl
theorem zbl {prog:Program}{w:World}{A:Around}(bs:List Bool):TruthOf prog w A (fun i v=>(bs.map Value.bool).toArray[i]? = some v) (fun i=>bs.getD i false):=by
 intro i v s Q E hP hQ
 have e:(bs.map Value.bool)[i]? = some v:=by simpa using hP
 rw[List.getElem?_map] at e
 cases hb:bs[i]? with
 | none=>rw[hb] at e;cases e
 | some b =>
  rw[hb] at e
  have e':v=Value.bool b:=(Option.some.inj e).symm
  subst e'
  have:bs.getD i false=b:=by rw[List.getD_eq_getElem?_getD,hb];rfl
  have hQ':Q (bs.getD i false) s:=hQ
  rw[this] at hQ'
  exact wpAny_truthy_bool hQ'
theorem zcT (hc:X.calm=true):jj X (.builtin "all") (fun xs H Q=>∃(a:Addr) (bs:List Bool),xs=[.ref a]∧SqL X.K H a (bs.map V.bl)∧Q (.bl (bs.all id)) H):=by
 intro pins s σ H xs us Q I r h
 obtain⟨a,bs,rfl,ha,q⟩:=h
 obtain⟨u,rfl,ru⟩:=vals1 r
 cases ru
 obtain⟨its,rv,pl,hz⟩:=I.list ha
 obtain rfl:=zew rv
 refine call_all_walk (wpAny_pyIter_list pl.isList ?_)
 have hlt:a<s.heap.objs.size:=by obtain⟨_,_,e,_⟩:=pl;exact Heap.lt_size e
 refine⟨_,_,_,_,_,_,fun i=>bs.getD i false,rfl,Walks.list (show X.A.in1.handled=none from I.ok.hd hc) s.heap.objs.size a (Nat.ne_of_lt hlt) _,⟨⟨_,Heap.get?_push_size _ rfl,rfl,rfl⟩,pl.isList.push _⟩,zbl bs,fun h' tk hk=>?_⟩
 refine⟨.bl _,H,I.kept (h':=h') (t':=tk) fun b o e=>hk b o (old_ne e) (Heap.get?_push_of_some _ e),rfl,?_⟩
 have:(List.range ((bs.map Value.bool).toArray).size).all (fun i=>bs.getD i false)=bs.all id:=by
  rw[show((bs.map Value.bool).toArray).size=bs.length by simp]
  exact range_all bs false id
 rw[this]
 exact q
theorem call_any (hc:X.calm=true):jj X (.builtin "any") (fun xs H Q=>∃(a:Addr) (bs:List Bool),xs=[.ref a]∧SqL X.K H a (bs.map V.bl)∧Q (.bl (bs.any id)) H):=by
 intro pins s σ H xs us Q I r h
 obtain⟨a,bs,rfl,ha,q⟩:=h
 obtain⟨u,rfl,ru⟩:=vals1 r
 cases ru
 obtain⟨its,rv,pl,hz⟩:=I.list ha
 obtain rfl:=zew rv
 refine call_any_walk (wpAny_pyIter_list pl.isList ?_)
 have hlt:a<s.heap.objs.size:=by obtain⟨_,_,e,_⟩:=pl;exact Heap.lt_size e
 refine⟨_,_,_,_,_,_,fun i=>bs.getD i false,rfl,Walks.list (show X.A.in1.handled=none from I.ok.hd hc) s.heap.objs.size a (Nat.ne_of_lt hlt) _,⟨⟨_,Heap.get?_push_size _ rfl,rfl,rfl⟩,pl.isList.push _⟩,zbl bs,fun h' tk hk=>?_⟩
 refine⟨.bl _,H,I.kept (h':=h') (t':=tk) fun b o e=>hk b o (old_ne e) (Heap.get?_push_of_some _ e),rfl,?_⟩
 have:(List.range ((bs.map Value.bool).toArray).size).any (fun i=>bs.getD i false)=bs.any id:=by
  rw[show((bs.map Value.bool).toArray).size=bs.length by simp]
  exact range_any bs false id
 rw[this]
 exact q
theorem jK:∀{ss:List Str}{us:List Value},Vals (ss.map V.str) us→StrsAre us ss
 | [],_,r=>by cases r;exact .nil
 | x::ss,_,r=>by
  cases r with
  | cons r t=>obtain⟨u,rfl⟩:=r;exact .cons _ _ (jK t)
theorem glued_T (ls:List (List Nat)):Txt.join (T []) (ls.map T)=T ls.flatten:=by
 have key:∀(ls:List (List Nat)) (acc:Array Nat),(ls.map T).foldl (fun acc p=>acc++(T []).cps++p.cps) acc=acc++ls.flatten.toArray:=by
  intro ls
  induction ls with
  | nil=>intro acc;simp
  | cons l r ih =>
   intro acc
   rw[List.map_cons,List.foldl_cons,ih]
   simp[T]
 show(⟨((ls.map T).drop 1).foldl (fun acc p=>acc++(T []).cps++p.cps) ((ls.map T).headD Str.empty).cps⟩:Str)=_
 cases ls with
 | nil=>rfl
 | cons l r =>
  simp only[List.map_cons,List.drop_succ_cons,List.drop_zero,List.headD_cons]
  rw[key]
  simp[T]
def rJoin (K:PySem.W.Frag):V→List V→Hp→VK→Prop:=fun x vs H Q=>∃(a:Addr) (ls:List (List Nat)),x=.str (T [])∧vs=[.ref a]∧SqL K H a (ls.map fun l=>V.str (T l))∧ls.flatten.length≤1000000∧Q (.str (T ls.flatten)) H
theorem zea:MtR X "str.join" (rJoin X.K):=by
 intro pins s σ H x xs v us Q I rx rs h
 obtain⟨a,ls,rfl,rfl,ha,hz,q⟩:=h
 obtain⟨t,rfl⟩:=rx
 obtain⟨u,rfl,ru⟩:=vals1 rs
 cases ru
 obtain⟨its,rv,pl,hsz⟩:=I.list ha
 have rv':Vals ((ls.map T).map V.str) its:=by rw[List.map_map];exact rv
 have hlen:((ls.map T).map (·.length)).sum=ls.flatten.length:=by
  rw[List.map_map,List.length_flatten]
  exact congrArg List.sum (List.map_congr_left fun l _=>zaC l)
 refine join_list pl.isList (by simpa using jK rv') ?_ fun t' k=>?_
 ·rw[hlen,zaC]
  simp only[List.length_nil,Nat.mul_zero,Nat.add_zero]
  exact Nat.le_trans hz (by decide)
 ·rw[glued_T]
  exact⟨.str _,H,I.tok _,⟨_,rfl⟩,q⟩
theorem starts_T (l m:List Nat):Txt.startswith (T l) (T m)=m.isPrefixOf l:=by
 unfold Txt.startswith
 rw[StrLaws.subAt_eq,zbD,zbD,zaC,zaC,List.drop_zero,Nat.zero_add]
 rw[Bool.eq_iff_iff,Bool.and_eq_true]
 simp only[decide_eq_true_eq,beq_iff_eq]
 rw[List.isPrefixOf_iff_prefix]
 constructor
 ·rintro⟨h1,h2⟩
  rw[← h2];exact List.take_prefix _ _
 ·intro h
  exact⟨h.length_le,(List.prefix_iff_eq_take.mp h).symm⟩
def rStarts:V→List V→Hp→VK→Prop:=fun x vs H Q=>∃l m,x=.str (T l)∧vs=[.str (T m)]∧Q (.bl (m.isPrefixOf l)) H
theorem mt_starts:MtR X "str.startswith" rStarts:=by
 intro pins s σ H x xs v us Q I rx rs h
 obtain⟨l,m,rfl,rfl,q⟩:=h
 obtain⟨t,rfl⟩:=rx
 obtain⟨u,rfl,ru⟩:=vals1 rs
 obtain⟨t',rfl⟩:=ru
 refine SC.startswith ?_
 rw[starts_T]
 exact⟨.bl _,H,I,rfl,q⟩
def rInC:R2:=fun x y H Q=>∃c l,x=.str (T [c])∧y=.str (T l)∧Q (.bl (decide (c∈l))) H
theorem op_inC:OpR X (compareOp .In) rInC:=by
 intro pins s σ H x y v u Q I rx ry h
 obtain⟨c,l,rfl,rfl,q⟩:=h
 obtain⟨t,rfl⟩:=rx
 obtain⟨t',rfl⟩:=ry
 refine in_str (fin_bl I q ?_)
 have e:=StrLaws.found_one (T l) c
 rw[zbD] at e
 exact e.symm
theorem um:OpR X (binaryOp .Add) (fun x y H Q=>∃l m,x=.str (T l)∧y=.str (T m)∧l.length+m.length≤1000000∧Q (.str (T (l++m))) H):=by
 intro pins s σ H x y v u Q I rx ry h
 obtain⟨l,m,rfl,rfl,hz,q⟩:=h
 refine op_add_str pins s σ H _ _ v u Q I rx ry ⟨_,_,rfl,rfl,?_,?_⟩
 ·rw[zaC,zaC]
  first|omega|exact Nat.le_trans hz (by decide)
 ·rw[T_app];exact q
def Sm (i:Int):Prop:=i.natAbs<2 ^ 4000
theorem Sm.log {i:Int}(h:Sm i):i.natAbs.log2<4000:=by
 by_cases h0:i.natAbs=0
 ·rw[h0];decide +kernel
 ·exact(Nat.log2_lt h0).mpr h
theorem ju:OpR X (binaryOp .Mult) (rI (fun i j=>Sm i∧Sm j) fun i j=>.int (i*j)):=opI fun i j _ _ _ _ _ hc q=>mul_int q (by
 obtain⟨h1,h2⟩:=hc
 have a:=h1.log
 have b:=h2.log
 unfold IntMulOk
 intro z
 rw[Bool.and_eq_true] at z
 have z2:Builtin.Int.intTooBig ((Builtin.Int.intBits i:Int)+(Builtin.Int.intBits j:Int))=true:=by first|exact z.2|exact_mod_cast z.2
 unfold Builtin.Int.intTooBig at z2
 have e1:Builtin.Int.intBits i≤4001:=by unfold Builtin.Int.intBits;split <;>omega
 have e2:Builtin.Int.intBits j≤4001:=by unfold Builtin.Int.intBits;split <;>omega
 have hb:((bitsLine:Nat):Int)≥10000:=by decide
 have:=of_decide_eq_true z2
 omega)
theorem jZ:OpR X (binaryOp .FloorDiv) (rI (fun _ j=>0<j∧Sm j) fun i j=>.int (i / j)):=opI fun i j _ _ _ _ _ hc q=>by
 obtain⟨h1,h2⟩:=hc
 refine floordiv_int (by omega) ?_ (.inl (PyProof.noPylong_of_log2 (by have:=h2.log;omega)))
 rw[Int.fdiv_eq_ediv_of_nonneg i (by omega)]
 exact q
theorem Same.upd {H:Hp}{p:Addr}{o:HO}(h:H p=none):Same H (upd H p o):=fun b u e=>by rw[zJ (wL e h)];exact e
theorem KV_nil:KV ([]:List (Key×V)) ([]:List (Key×Value)):=.nil
theorem z7 {a b:Nat}(h:a<b∨b<a):(a:Addr)≠(b:Addr):=by
 rcases h with h|h
 ·exact Nat.ne_of_lt h
 ·exact Nat.ne_of_gt h
end
end L2
namespace L2
open PySem PySem.Spec PyProof.Rows
def tyN:PyData→String
 | .none => "NoneType" | .bool _ => "bool" | .int _ => "int" | .str _ => "str" | .list _ => "list" | .tuple _ => "tuple" | .dict _ => "dict"
theorem kit_int {K:PySem.W.Frag}(d:PyData):PySem.W.kitOne K (.type (tyN d)) (.type "int")=some (match d with | .int _=>true | .bool _=>true|_=>false):=by cases d <;>rfl
theorem kit_bool {K:PySem.W.Frag}(d:PyData):PySem.W.kitOne K (.type (tyN d)) (.type "bool")=some (match d with | .bool _=>true|_=>false):=by cases d <;>rfl
theorem kit_str {K:PySem.W.Frag}(d:PyData):PySem.W.kitOne K (.type (tyN d)) (.type "str")=some (match d with | .str _=>true|_=>false):=by cases d <;>rfl
theorem kit_tuple {K:PySem.W.Frag}(d:PyData):PySem.W.kitOne K (.type (tyN d)) (.type "tuple")=some (match d with | .tuple _=>true|_=>false):=by cases d <;>rfl
section
variable {X:Cx}
theorem zdz:jj X (.builtin "isinstance") (fun xs H Q=>∃x d n b,xs=[x,.ty n]∧Is X.K H x d∧PySem.W.kitOne X.K (.type (tyN d)) (.type n)=some b∧Q (.bl b) H):=by
 intro pins s σ H xs us Q I r h
 obtain⟨x,d,n,b,rfl,is,e,q⟩:=h
 obtain⟨u,u2,rfl,ru,r2⟩:=vals2 r
 cases r2
 have fin:∀tk,EP X pins σ Q (.bool b) {s with toks:=tk}:=fun tk=>⟨.bl b,H,I.tok _,rfl,q⟩
 cases is with
 | non=>cases (show u=Value.none from ru);exact PySem.W.kia_one PySem.W.kitx_none I.kIn True.intro e (fun z=>nomatch z) fin
 | bl y=>cases (show u=Value.bool y from ru);exact PySem.W.kia_one PySem.W.kitx_bool I.kIn True.intro e (fun z=>nomatch z) fin
 | int i=>obtain⟨t,q'⟩:=(show ∃t,u=Value.int i t from ru);cases q';exact PySem.W.kia_one PySem.W.kitx_int I.kIn True.intro e (fun z=>nomatch z) fin
 | str y=>obtain⟨t,q'⟩:=(show ∃t,u=Value.str y t from ru);cases q';exact PySem.W.kia_one PySem.W.kitx_str I.kIn True.intro e (fun z=>nomatch z) fin
 | @lst a xs ds q1 q2 =>
  cases (show u=Value.ref a from ru)
  obtain⟨its,_,⟨o,n',e1,hc,_⟩,_⟩:=I.list q1
  exact PySem.W.kia_one PySem.W.kitx_list I.kIn ⟨o,e1,hc⟩ e (fun z=>nomatch z) fin
 | @tup a xs ds q1 q2 =>
  cases (show u=Value.ref a from ru)
  obtain⟨its,_,⟨o,e1,hc,_⟩,_⟩:=I.tuple q1
  exact PySem.W.kia_one PySem.W.kitx_tuple I.kIn ⟨o,e1,hc⟩ e (fun z=>nomatch z) fin
end
end L2
namespace L2
open PySem PySem.Spec PyProof.Rows
def compChk (fs:Scope)(N:List Str)(scope:Scope)(caps:List Nat):Bool :=
 (scope.kind == .function)&&(scope.names.all fun y=>y.2 != .cell || scope.names.lookup y.1 == some .cell)&&(scope.names.all fun y=>y.2 != .local || scope.names.lookup y.1 == some .local) &&
 (scope.names.all fun y=>y.2 != .free || fs.names.lookup y.1 == some .cell || fs.names.lookup y.1 == some .free) &&
 (caps.all fun i=>match N[i]? with|some y=>scope.names.lookup y == some .free|none=>false)
theorem xJ {X:Cx}{fs scope:Scope}{N:List Str}{caps:List Nat}(hs:X.env.scope=fs)(hN:X.N=N)(h:compChk fs N scope caps=true):CompOk X scope caps:=by
 unfold compChk at h
 simp only[Bool.and_eq_true,List.all_eq_true] at h
 obtain⟨⟨⟨⟨h1,h2⟩,h3⟩,h4⟩,h5⟩:=h
 refine⟨by simpa using h1,fun y hy e=>?_,fun y hy e=>?_,fun y hy e=>?_,fun i hi=>?_⟩
 ·have:=h2 y hy
  rw[e] at this
  simpa using this
 ·have:=h3 y hy
  rw[e] at this
  simpa using this
 ·have:=h4 y hy
  rw[e] at this
  unfold Env.kindOf
  rw[hs]
  simpa using this
 ·have:=h5 i hi
  rw[hN]
  cases e:N[i]? with
  | none=>rw[e] at this;simp at this
  | some y=>rw[e] at this;exact⟨y,rfl,by simpa using this⟩
theorem kI {X:Cx}{N:List Str}(h:X.N=N)(n:N.Nodup):X.N.Nodup:=h▸n
structure Dn (K:PySem.W.Frag)(mg:Str→Option Value)(x:Str)(st:Stmt)(ps:List Str) where
 f:Addr
 fd:FuncData
 fn:Fun K x x st f fd
 mg:mg x=some (.ref f)
 bd:Binds K fd ps []
end L2
namespace L2
open PySem PySem.Spec PyProof.Rows
section
variable {X:Cx}{pins:List (Addr×Obj)}{σ:St}{H:Hp}{s:Shared}{h':Heap}
theorem Inv.turnedL {t':Nat}{fp:List Addr}(I:Inv X pins σ H s)(k:∀b o,b∉fp→s.heap.get? b=some o→h'.get? b=some o)(hf:∀b∈fp,FpOk X pins H b):Inv X pins σ H {s with heap:=h',toks:=t'}:=by
 have nit:∀b u,H b=some u→b∉fp:=fun b u e z=>by rw[(hf b z).1] at e;cases e
 have nl:X.env.locals∉fp:=fun z=>(hf _ z).2.1 rfl
 refine I.step (g':=s.gens) (d':=s.drawn) (ch:=fp) (fun b hb=>?_) (fun b o _ _ hc e _=>k b o hc e) (fun b o _ _ hc e _=>⟨o.slots,k b o hc e⟩) (fun _ _ _ _ n=>n)
  (fun b o hc e=>⟨o,k b o hc e⟩) (fun _ _ e=>e) (fun _ _ _ e=>e) (fun b ps e=>⟨#[],by rw[e];simp⟩) (fun m hm=>?_) (fun b u e=>?_) I.bare
 ·obtain⟨_,f1,_,f3,f4,f5⟩:=hf b hb
  exact⟨f3,f1,f4,f5⟩
 ·obtain⟨o,es,ep,ho,r⟩:=hm
  exact⟨o,es,ep,k _ o nl ho,r⟩
 ·refine(I.hok b u e).stay (fun c v hc q=>k c v ?_ q) (fun _ q=>q) fun _ _ q=>q
  rcases hc with z|z
  ·rw[z];exact nit b u e
  ·exact nit c _ z
end
theorem zApart (n:Nat):Zp.Apart (n+4:Nat) (n+2:Nat) (n+3:Nat) n (n+1:Nat) :=
 ⟨z7 (by omega),z7 (by omega),z7 (by omega),z7 (by omega),z7 (by omega),z7 (by omega),z7 (by omega),z7 (by omega),z7 (by omega),z7 (by omega)⟩
def fpZ (n:Nat):List Addr:=[(n+4:Nat),(n+2:Nat),(n+3:Nat),n,(n+1:Nat)]
section
variable {prog:Program}{w:World}{A:Around}
theorem yields_lst {it t:Addr}{i:Nat}{items:Array Value}{x:Value}(hne:t≠it)(hx:items[i]? = some x) :
  Zp.Yields prog w A it (fun h=>h.IsListIter it t i∧h.IsList t items) (fun v=>v=x) (fun h=>h.IsListIter it t (i+1)∧h.IsList t items) :=
 fun s Q E g hQ=>Zp.nextOf_list_item g.1 g.2 hx fun h' st sb=>hQ _ h' s.toks rfl ⟨st,g.2.extBut sb.extBut hne⟩ sb
theorem ends_lst {it t:Addr}{i:Nat}{items:Array Value}(hh:A.handled=none)(hx:items[i]? = none) :
  Zp.Ends prog w A it (fun h=>h.IsListIter it t i∧h.IsList t items) :=
 fun s Q E g hE=>Zp.nextOf_list_end hh g.1 g.2 hx hE
end
def Kp (it n:Nat)(h h':Heap):Prop:=∀(c:Addr) o,(c=it∨(c:Nat)<n)→h.get? c=some o→h'.get? c=some o
structure ZS (P:Program)(w:World)(K:PySem.W.Frag)(xs:List V)(G:Hp→Prop)(n it:Nat)(S:Nat→Heap→Prop):Prop where
 obj:∀i h,S i h→∃o,h.get? (it:Addr)=some o∧∀v,o.data≠.cell v
 keep:∀i h h',S i h→(∀o,h.get? (it:Addr)=some o→h'.get? (it:Addr)=some o)→S i h'
 yld:∀(X:Cx),X.prog=P→X.w=w→X.K=K→∀(pins:List (Addr×Obj)) (s:Shared) (σ:St) (H:Hp) (i:Nat) (x:V),Inv X pins σ H s→G H→xs[i]? = some x→S i s.heap→∃G1 S1:Heap→Prop,
  (∀A,Zp.Yields P w A (it:Addr) G1 (RelV x) S1)∧(∀h',Kp it n s.heap h'→G1 h')∧(∀h h',S1 h→Kp it n h h'→S1 h')∧∀h,S1 h→S (i+1) h
 ends:∀(X:Cx),X.prog=P→X.w=w→X.K=K→∀(pins:List (Addr×Obj)) (s:Shared) (σ:St) (H:Hp) (i:Nat),Inv X pins σ H s→G H→xs.length≤i→S i s.heap→∃G1:Heap→Prop,
  (∀A:Around,A.handled=none→Zp.Ends P w A (it:Addr) G1)∧∀h',Kp it n s.heap h'→G1 h'
theorem zs_tup {P:Program}{w:World}{K:PySem.W.Frag}{xs:List V}{n it l:Nat}(hl:l<n)(hi:n≤it):ZS P w K xs (fun H=>SqT K H l xs) n it (fun i h=>h.IsTupleIter it l i) where
 obj:=fun i h ⟨o,e,c,d⟩=>⟨o,e,fun v z=>by rw[d] at z;cases z⟩
 keep:=fun i h h' z kk=>z.at kk
 yld:=by
  intro X hP hw hK pins s σ H i x I g hx st
  subst hP hw hK
  obtain⟨its,rv,pl,_⟩:=I.tuple g
  obtain⟨u,hu,ru⟩:=rv.get hx
  have p1:s.heap.IsTuple l its.toArray:=pl
  have ne:(l:Addr)≠(it:Addr):=z7 (.inl (by omega))
  refine⟨fun h=>h.IsTupleIter it l i∧h.IsTuple l its.toArray,fun h=>h.IsTupleIter it l (i+1)∧h.IsTuple l its.toArray,fun A s Q E g hQ=>Zp.yields_tuple (items:=its.toArray) (i:=i) (x:=u) ne (by simpa using hu) s Q E g fun v h' tk e=>hQ v h' tk (e▸ru),fun h' kk=>⟨?_,?_⟩,fun h h' ⟨a,b⟩ kk=>⟨a.at fun o e=>kk _ _ (.inl rfl) e,?_⟩,fun h z=>z.1⟩
  ·exact st.at fun o e=>kk _ _ (.inl rfl) e
  ·obtain⟨o,e,r⟩:=p1;exact⟨o,kk _ _ (.inr hl) e,r⟩
  ·obtain⟨o,e,r⟩:=b;exact⟨o,kk _ _ (.inr hl) e,r⟩
 ends:=by
  intro X hP hw hK pins s σ H i I g hx st
  subst hP hw hK
  obtain⟨its,rv,pl,_⟩:=I.tuple g
  have p1:s.heap.IsTuple l its.toArray:=pl
  have len:=rv.length
  refine⟨_,fun A hh=>Zp.ends_tuple (t:=l) (i:=i) (items:=its.toArray) hh (by simpa using (show its.length≤i by omega)),fun h' kk=>⟨st.at fun o e=>kk _ _ (.inl rfl) e,?_⟩⟩
  obtain⟨o,e,r⟩:=p1;exact⟨o,kk _ _ (.inr hl) e,r⟩
theorem zs_lst {P:Program}{w:World}{K:PySem.W.Frag}{xs:List V}{n it l:Nat}(hl:l<n)(hi:n≤it):ZS P w K xs (fun H=>SqL K H l xs) n it (fun i h=>h.IsListIter it l i) where
 obj:=fun i h ⟨o,e,c,d⟩=>⟨o,e,fun v z=>by rw[d] at z;cases z⟩
 keep:=fun i h h' z kk=>z.at kk
 yld:=by
  intro X hP hw hK pins s σ H i x I g hx st
  subst hP hw hK
  obtain⟨its,rv,pl,_⟩:=I.list g
  obtain⟨u,hu,ru⟩:=rv.get hx
  have p1:s.heap.IsList l its.toArray:=pl.isList
  have ne:(l:Addr)≠(it:Addr):=z7 (.inl (by omega))
  refine⟨fun h=>h.IsListIter it l i∧h.IsList l its.toArray,fun h=>h.IsListIter it l (i+1)∧h.IsList l its.toArray,fun A s Q E g hQ=>yields_lst (items:=its.toArray) (i:=i) (x:=u) ne (by simpa using hu) s Q E g fun v h' tk e=>hQ v h' tk (e▸ru),fun h' kk=>⟨?_,?_⟩,fun h h' ⟨a,b⟩ kk=>⟨a.at fun o e=>kk _ _ (.inl rfl) e,?_⟩,fun h z=>z.1⟩
  ·exact st.at fun o e=>kk _ _ (.inl rfl) e
  ·obtain⟨o,e,r⟩:=p1;exact⟨o,kk _ _ (.inr hl) e,r⟩
  ·obtain⟨o,e,r⟩:=b;exact⟨o,kk _ _ (.inr hl) e,r⟩
 ends:=by
  intro X hP hw hK pins s σ H i I g hx st
  subst hP hw hK
  obtain⟨its,rv,pl,_⟩:=I.list g
  have p1:s.heap.IsList l its.toArray:=pl.isList
  have len:=rv.length
  refine⟨_,fun A hh=>ends_lst (t:=l) (i:=i) (items:=its.toArray) hh (by simpa using (show its.length≤i by omega)),fun h' kk=>⟨st.at fun o e=>kk _ _ (.inl rfl) e,?_⟩⟩
  obtain⟨o,e,r⟩:=p1;exact⟨o,kk _ _ (.inr hl) e,r⟩
def vC (l:List Nat):List V:=l.map fun c=>V.str (T [c])
theorem zs_str {P:Program}{w:World}{K:PySem.W.Frag}{l:List Nat}{t:Tok}{n it:Nat}:ZS P w K (vC l) (fun _=>True) n it (fun i h=>h.IsStrIter it "str_ascii_iterator" (T l) t i) where
 obj:=fun i h z=>by obtain⟨o,e,c,d⟩:=z;exact⟨o,e,fun v z=>by rw[d] at z;cases z⟩
 keep:=fun i h h' z kk=>by obtain⟨o,e,c,d⟩:=z;exact⟨o,kk o e,c,d⟩
 yld:=by
  intro X hP hw hK pins s σ H i x I g hx st
  subst hP hw hK
  unfold vC at hx
  rw[List.getElem?_map] at hx
  cases ec:l[i]? with
  | none=>rw[ec] at hx;cases hx
  | some c =>
   rw[ec] at hx
   cases hx
   refine⟨fun h=>h.IsStrIter it "str_ascii_iterator" (T l) t i,fun h=>h.IsStrIter it "str_ascii_iterator" (T l) t (i+1),fun A s Q E g hQ=>Zp.yields_ascii (x:=T l) (t:=t) (i:=i) (c:=c) (by show l.toArray[i]? = _;simpa using ec) s Q E g fun v h' tk e=>hQ v h' tk ?_,fun h' kk=>?_,fun h h' z kk=>?_,fun h z=>z⟩
   ·obtain⟨u,rfl⟩:=e;exact⟨u,rfl⟩
   ·obtain⟨o,e,c,d⟩:=st;exact⟨o,kk _ _ (.inl rfl) e,c,d⟩
   ·obtain⟨o,e,c,d⟩:=z;exact⟨o,kk _ _ (.inl rfl) e,c,d⟩
 ends:=by
  intro X hP hw hK pins s σ H i I g hx st
  subst hP hw hK
  have hl:l.length≤i:=by simpa [vC] using hx
  refine⟨_,fun A hh=>Zp.ends_ascii (x:=T l) (t:=t) (i:=i) hh (by show l.toArray[i]? = none;simpa using hl),fun h' kk=>?_⟩
  obtain⟨o,e,c,d⟩:=st;exact⟨o,kk _ _ (.inl rfl) e,c,d⟩
def ItzG (G1 G2:Hp→Prop)(xs ys:List V):It :=
 ⟨fun i H=>G1 H∧G2 H∧i<min xs.length ys.length,fun i H v H'=>∃p x y,H p=none∧xs[i]? = some x∧ys[i]? = some y∧v=.ref p∧H'=upd H p (.tup [x,y]),fun i H=>G1 H∧G2 H∧min xs.length ys.length≤i⟩
def tnZG (n:Nat)(S1 S2:Nat→Heap→Prop)(i:Nat)(h:Heap):Prop:=∃a b f1,Zp.IsZipF h (n+4:Nat) (n+2:Nat) (n+3:Nat) .none f1∧IsPair h (n+2:Nat) (.ref n) (.ref (n+1:Nat))∧IsPair h (n+3:Nat) a b∧S1 i h∧S2 i h
theorem turn_zipG {P:Program}{w:World}{K:PySem.W.Frag}{elts:List Expr}{k:Nat}{pos:Pos}{n:Nat}{xs ys:List V}{G1 G2:Hp→Prop}{S1 S2:Nat→Heap→Prop}(A1:ZS P w K xs G1 n n S1)(A2:ZS P w K ys G2 n (n+1) S2) :
  Turn P w K (.Tuple elts k pos) (ItzG G1 G2 xs ys) (fpZ n) (n+4:Nat) (tnZG n S1 S2) where
 mem:=by simp[fpZ]
 obj:=fun i h ⟨a,b,f1,z1,z2,z3,z4,z5⟩ c hc=>by
  simp only[fpZ,List.mem_cons,List.mem_nil_iff,or_false] at hc
  rcases hc with rfl|rfl|rfl|rfl|rfl
  ·exact⟨_,z1,fun v z=>by cases z⟩
  ·exact⟨_,z2,fun v z=>by cases z⟩
  ·exact⟨_,z3,fun v z=>by cases z⟩
  ·exact A1.obj i h z4
  ·exact A2.obj i h z5
 keep:=fun i h h' ⟨a,b,f1,z1,z2,z3,z4,z5⟩ kk=>by
  refine⟨a,b,f1,kk _ (by simp[fpZ]) _ z1,kk _ (by simp[fpZ]) _ z2,kk _ (by simp[fpZ]) _ z3,A1.keep i h h' z4 fun o e=>kk _ (by simp[fpZ]) o e,A2.keep i h h' z5 fun o e=>kk _ (by simp[fpZ]) o e⟩
 item := by
  intro X hP hw hK hc i pins s σ H E I hf st hg
  obtain⟨q1,q2,hi⟩:=hg
  have i1:i<xs.length:=by omega
  have i2:i<ys.length:=by omega
  obtain⟨a,b,f1,z1,z2,z3,z4,z5⟩:=st
  obtain⟨Ga,Sa,Y1,ga,sa,ta⟩:=A1.yld X hP hw hK pins s σ H i _ I q1 (List.getElem?_eq_getElem i1) z4
  obtain⟨Gb,Sb,Y2,gb,sb',tb⟩:=A2.yld X hP hw hK pins s σ H i _ I q2 (List.getElem?_eq_getElem i2) z5
  subst hP hw hK
  have hT:s.TypeIs (.ref ((n+4:Nat):Addr)) "zip" := ⟨_,z1,rfl⟩
  unfold pyNext
  refine wpAny_bind (wpAny_attempt (wpAny_callSpecial?_slot (name:=Str.ofString "__next__") hT PySem.F.slot_zip_next
   (wpAny_call_entry PySem.F.slot_zip_next hT PySem.F.entry_zip_next ?_ (PySem.F.args_zip_next_1 _))))
  have D:=zApart n
  have nn:∀{c:Addr}{k:Nat},(c:Nat)<n→c≠((n+k:Nat):Addr):=fun {c k} hc=>z7 (.inl (Nat.lt_of_lt_of_le hc (Nat.le_add_right _ _)))
  refine Zp.next_item D z1 z2 z3 (Y1 _) (Y2 _) ?_ ?_ ?_ ?_ ?_
  ·refine fun h' kk=>ga h' fun c o hc e=>kk c o ?_ e
   rcases hc with rfl|hc
   ·exact D.i1z
   ·exact nn hc
  ·refine fun h' kk=>gb h' fun c o hc e=>?_
   rcases hc with rfl|hc
   ·exact kk _ _ D.i2z D.TOi2.symm D.i12.symm e
   ·exact kk _ _ (nn hc) (nn hc) (nn (k:=0) hc) e
  ·refine fun h h' z kk=>sa h h' z fun c o hc e=>?_
   rcases hc with rfl|hc
   ·exact kk _ _ D.i1z D.TOi1.symm D.i12 e
   ·exact kk _ _ (nn hc) (nn hc) (nn hc) e
  ·refine fun h h' z kk=>sb' h h' z fun c o hc e=>?_
   rcases hc with rfl|hc
   ·exact kk _ _ D.i2z D.TOi2.symm e
   ·exact kk _ _ (nn hc) (nn hc) e
  ·rintro v1 v2 h' tk ru1 ru2 z' to' s1 s2 hp hsz kk
   refine wpAny_pure ⟨_,rfl,?_⟩
   refine wpAny_letOwnedTupleGo_zip (s:={s with heap:=h',toks:=tk}) z' fun h2 zz sb=>?_
   obtain⟨o1,e1,_⟩:=A1.obj _ _ z4
   obtain⟨o2,e2,_⟩:=A2.obj _ _ z5
   have nz:∀c:Addr,c=s.heap.objs.size→c∉fpZ n:=fun c e hc=>by
    have:=(hf c hc).1
    obtain ⟨o,ho,_⟩:∃o,s.heap.get? c=some o∧True:=by
     simp only[fpZ,List.mem_cons,List.mem_nil_iff,or_false] at hc
     rcases hc with rfl|rfl|rfl|rfl|rfl
     ·exact⟨_,z1,trivial⟩
     ·exact⟨_,z2,trivial⟩
     ·exact⟨_,z3,trivial⟩
     ·exact⟨_,e1,trivial⟩
     ·exact⟨_,e2,trivial⟩
    rw[e] at ho
    exact absurd (Heap.lt_size ho) (Nat.lt_irrefl _)
   have szz:s.heap.objs.size≠((n+4:Nat):Addr):=fun e=>nz _ rfl (by rw[e];simp[fpZ])
   have I1:Inv X pins σ H {s with heap:=h2,toks:=tk}:=I.turnedL (fp:=fpZ n) (fun c o hc e=>by
    have hc':c≠((n+4:Nat):Addr)∧c≠((n+2:Nat):Addr)∧c≠((n+3:Nat):Addr)∧c≠(n:Addr)∧c≠((n+1:Nat):Addr):=by
     simpa [fpZ] using hc
    exact sb.extBut _ _ hc'.1 (kk c o hc'.1 hc'.2.2.1 hc'.2.2.2.1 hc'.2.2.2.2 e)) hf
   have hfree:H s.heap.objs.size=none:=I.hok.fresh (Nat.le_refl _)
   have hpair:h2.get? s.heap.objs.size=some {cls:=.type "tuple", data:=.seq #[v1,v2]}:=sb.extBut _ _ szz hp
   have I2:Inv X pins σ (upd H s.heap.objs.size (.tup [xs[i],ys[i]])) {s with heap:=h2,toks:=tk}:=I1.track hfree (.inr I.sz) (Nat.ne_of_gt I.lt) (fun x c e=>by
     obtain⟨v,o,ho,_⟩:=I.cell x c e
     exact Nat.ne_of_lt (Heap.lt_size ho)) (fun p hp=>Nat.ne_of_lt (Heap.lt_size (I.pin p hp).1))
    ⟨by show 2≤sizeLine;decide,[v1,v2],.cons ru1 (.cons ru2 .nil),_,hpair,rfl,⟨_,rfl⟩,rfl⟩
   refine⟨.ref s.heap.objs.size,_,I2,rfl,⟨_,_,_,hfree,List.getElem?_eq_getElem i1,List.getElem?_eq_getElem i2,rfl,rfl⟩,⟨v1,v2,.bool false,zz,sb.extBut _ _ D.TIz (kk _ _ D.TIz D.TITO D.TIi1 D.TIi2 z2),sb.extBut _ _ D.TOz to',?_,?_⟩,fun b hb=>?_⟩
   ·exact A1.keep _ _ _ (ta _ s1) fun o e=>sb.extBut _ _ D.i1z e
   ·exact A2.keep _ _ _ (tb _ s2) fun o e=>sb.extBut _ _ D.i2z e
   ·rw[zJ (fun e=>nz b e hb)]
    exact(hf b hb).1
 done:=by
  intro X hP hw hK hc i pins s σ H E I hf st hg
  obtain⟨q1,q2,hi⟩:=hg
  obtain⟨a,b,f1,z1,z2,z3,z4,z5⟩:=st
  have hT:s.TypeIs (.ref ((n+4:Nat):Addr)) "zip" := ⟨_,z1,rfl⟩
  have D:=zApart n
  have nn:∀{c:Addr}{k:Nat},(c:Nat)<n→c≠((n+k:Nat):Addr):=fun {c k} hc=>z7 (.inl (Nat.lt_of_lt_of_le hc (Nat.le_add_right _ _)))
  have hh:=I.ok.hd hc
  have key:∃Ga Gb:Heap→Prop,(Zp.Ends X.prog X.w X.A.in1 (n:Addr) Ga∨(Zp.Yields X.prog X.w X.A.in1 (n:Addr) Ga (fun _=>True) (fun _=>True)∧Zp.Ends X.prog X.w X.A.in1 ((n+1:Nat):Addr) Gb))∧(∀h',Kp n n s.heap h'→Ga h')∧(∀h',Kp (n+1) n s.heap h'→Gb h'):=by
   by_cases h1:xs.length≤i
   ·obtain⟨Ga,y,g⟩:=A1.ends X hP hw hK pins s σ H i I q1 h1 z4
    subst hP hw
    exact⟨Ga,fun _=>True,.inl (y _ hh),g,fun _ _=>trivial⟩
   ·obtain⟨Ga,Sa,Y1,ga,sa,ta⟩:=A1.yld X hP hw hK pins s σ H i _ I q1 (List.getElem?_eq_getElem (Nat.lt_of_not_le h1)) z4
    obtain⟨Gb,y,g⟩:=A2.ends X hP hw hK pins s σ H i I q2 (by omega) z5
    subst hP hw
    exact⟨Ga,Gb,.inr ⟨fun s Q E g hQ=>Y1 _ s Q E g fun v h' tk _ _ sb=>hQ v h' tk trivial trivial sb,y _ hh⟩,ga,g⟩
  obtain⟨Ga,Gb,hend',ga,gb⟩:=key
  subst hP hw hK
  unfold pyNext
  refine wpAny_bind (wpAny_attempt (wpAny_callSpecial?_slot (name:=Str.ofString "__next__") hT PySem.F.slot_zip_next
   (wpAny_call_entry PySem.F.slot_zip_next hT PySem.F.entry_zip_next (Zp.next_end D z1 z2 z3 hend' ?_ ?_ ?_) (PySem.F.args_zip_next_1 _))))
  ·refine fun h' kk=>ga h' fun c o hc e=>kk c o ?_ e
   rcases hc with rfl|hc
   ·exact D.i1z
   ·exact nn hc
  ·refine fun h' kk=>gb h' fun c o hc e=>?_
   rcases hc with rfl|hc
   ·exact kk _ _ D.i2z D.TOi2.symm D.i12.symm e
   ·exact kk _ _ (nn hc) (nn hc) (nn (k:=0) hc) e
  ·intro h' tk e kk he
   obtain⟨o,ho,hc⟩:=he
   refine wpAny_bind (wpAny_isInstance (T := "StopIteration") (b:=true) ⟨o,ho,hc⟩ isSubtype_stop ?_)
   refine wpAny_pure ⟨rfl,I.turnedL (fp:=fpZ n) (fun c o hc e=>?_) hf⟩
   have hc':c≠((n+4:Nat):Addr)∧c≠((n+2:Nat):Addr)∧c≠((n+3:Nat):Addr)∧c≠(n:Addr)∧c≠((n+1:Nat):Addr):=by
    simpa [fpZ] using hc
   exact kk c o hc'.1 hc'.2.2.1 hc'.2.2.2.1 hc'.2.2.2.2 e
 self:=fun A i s Q E ⟨a,b,f1,z1,z2,z3,z4,z5⟩ h=>by
  have hT:s.TypeIs (.ref ((n+4:Nat):Addr)) "zip" := ⟨_,z1,rfl⟩
  refine wpAny_pyIter_slot hT PySem.F.slot_zip_iter (wpAny_call_entry PySem.F.slot_zip_iter hT PySem.F.entry_zip_iter ?_ (PySem.F.args_zip_iter_1 _))
  show wpAny _ _ (ret (.ref ((n+4:Nat):Addr))) _ _ s
  exact wpAny_pure ⟨_,rfl, "zip", _,hT,PySem.F.slot_zip_next.lookup,h⟩
def Itu (u:Value)(o:Obj)(G:Heap→Prop):Prop:=∀(prog:Program) (w:World) (A:Around) (s:Shared) (Q:Value→Shared→Prop) (E:Value→Shared→Prop),G s.heap→Q (.ref s.heap.objs.size) {s with heap:=s.heap.push o}→wpAny (model prog w) A (pyIter u) Q E s
section
variable {prog:Program}{w:World}{A:Around}{E:Value→Shared→Prop}{s:Shared}
theorem meets_vv {u1 u2:Value}{o1 o2:Obj}{G1 G2:Heap→Prop}(b1:Itu u1 o1 G1)(b2:Itu u2 o2 G2)(up:∀h,G2 h→G2 (h.push o1)) :
  Meets (Builtin.«zip.__new__» ⟨[.type "zip", u1,u2],[]⟩) (fun _ R s=>G1 s.heap∧G2 s.heap ∧
   R (.ok (.ret (.ref (Zp.zH4 s.heap o1 o2).objs.size))) {s with heap:=Zp.zH5 s.heap o1 o2}) :=
 .of_wp fun prog w A R s h=>by
  obtain⟨hl1,hl2,h⟩:=h
  have z3:(Zp.zH3 s.heap o1 o2).objs.size=(Zp.zH2 s.heap o1 o2).objs.size+1:=Heap.size_push ..
  have z4:(Zp.zH4 s.heap o1 o2).objs.size=(Zp.zH2 s.heap o1 o2).objs.size+2:=by rw[Heap.size_push,z3]
  refine Zp.meets_st_aux (h1:=s.heap.push o1) (h2:=Zp.zH2 s.heap o1 o2) (i1:=s.heap.objs.size) (i2:=(s.heap.push o1).objs.size)
   (fun Q E q=>b1 prog w A.in1 s Q E hl1 q) (fun Q E q=>b2 prog w A.in1 {s with heap:=s.heap.push o1} Q E (up _ hl2) q) ⟨_,rfl,?_⟩
  rw[← z4,← z3]
  exact h
theorem call_zipV {u1 u2:Value}{o1 o2:Obj}{G1 G2:Heap→Prop}{Q:Value→Shared→Prop}(f1:o1.isFreed=false)(f2:o2.isFreed=false)(b1:Itu u1 o1 G1)(b2:Itu u2 o2 G2)(up:∀h,G2 h→G2 (h.push o1))(hl1:G1 s.heap)(hl2:G2 s.heap)
  (h:∀h',Zp.Made5 s.heap h' o1 o2→Q (.ref (s.heap.objs.size+4)) {s with heap:=h'}) :
  wpAny (model prog w) A (call (.type "zip") [u1,u2]) Q E s:=by
 refine callType_new F.called_zip (by decide) (F.typeCall_zip_2 _ _) (F.newCall_zip_2 _ _) (fun obj=>F.args_object_init_3 obj _ _) F.entry_zip_new
  (meets_vv b1 b2 up) ⟨hl1,hl2,?_⟩
 obtain⟨m,z4⟩:=Zp.made5 s.heap o1 o2 f1 f2
 show _∧_
 rw[z4]
 exact⟨⟨_,m.1,rfl⟩,h _ m⟩
end
def ZArg (K:PySem.W.Frag)(H:Hp)(v:V)(xs:List V)(G:Hp→Prop):Prop :=
 (∃l,v=.ref l∧SqT K H l xs∧G=fun H=>SqT K H l xs)∨(∃l,v=.ref l∧SqL K H l xs∧G=fun H=>SqL K H l xs)∨(∃l,v=.str (T l)∧(∀c∈l,c<128)∧xs=vC l∧G=fun _=>True)
theorem zarg {X:Cx}{pins:List (Addr×Obj)}{s:Shared}{σ:St}{H:Hp}{v:V}{u:Value}{xs:List V}{G:Hp→Prop}(I:Inv X pins σ H s)(z:ZArg X.K H v xs G)(r:RelV v u):G H∧∃(o:Obj) (C:Heap→Prop),o.isFreed=false∧C s.heap∧(∀h o',C h→C (h.push o'))∧Itu u o C ∧
  ∀it:Nat,s.heap.objs.size≤it→∃S,ZS X.prog X.w X.K xs G s.heap.objs.size it S∧∀h:Heap,h.get? (it:Addr)=some o→S 0 h:=by
 rcases z with⟨l,rfl,q,rfl⟩|⟨l,rfl,q,rfl⟩|⟨l,rfl,ha,rfl,rfl⟩
 ·cases r
  obtain⟨its,rv,pl,_⟩:=I.tuple q
  have p1:s.heap.IsTuple l its.toArray:=pl
  have lt1:l<s.heap.objs.size:=by obtain⟨o,e,_⟩:=p1;exact Heap.lt_size e
  exact⟨q,Zp.tIter l,fun h=>h.IsTuple l its.toArray,rfl,p1,fun h o' ⟨o,e,r⟩=>⟨o,Heap.get?_push_of_some _ e,r⟩,fun _ _ _ _ _ _ g q=>wpAny_pyIter_tuple g q,fun it hit=>⟨_,zs_tup lt1 hit,fun h e=>⟨_,e,rfl,rfl⟩⟩⟩
 ·cases r
  obtain⟨its,rv,pl,_⟩:=I.list q
  have p1:s.heap.IsList l its.toArray:=pl.isList
  have lt1:l<s.heap.objs.size:=by obtain⟨o,e,_⟩:=p1;exact Heap.lt_size e
  exact⟨q,Zp.lIter l,fun h=>h.IsList l its.toArray,rfl,p1,fun h o' ⟨o,e,r⟩=>⟨o,Heap.get?_push_of_some _ e,r⟩,fun _ _ _ _ _ _ g q=>wpAny_pyIter_list g q,fun it hit=>⟨_,zs_lst lt1 hit,fun h e=>⟨_,e,rfl,rfl⟩⟩⟩
 ·obtain ⟨t,rfl⟩:=r
  have ha':(T l).cps.all (· < 128)=true:=by
   simp only[T,List.all_toArray,List.all_eq_true,decide_eq_true_eq]
   exact ha
  exact⟨trivial,Zp.sIter (T l) t,fun _=>True,rfl,trivial,fun _ _ _=>trivial,fun _ _ _ _ _ _ _ q=>wpAny_pyIter_ascii ha' q,fun it hit=>⟨_,zs_str,fun h e=>⟨_,e,rfl,rfl⟩⟩⟩
def Itz (K:PySem.W.Frag)(l1 l2:Addr)(xs ys:List V):It :=
 ⟨fun i H=>SqT K H l1 xs∧SqT K H l2 ys∧i<min xs.length ys.length,fun i H v H'=>∃p x y,H p=none∧xs[i]? = some x∧ys[i]? = some y∧v=.ref p∧H'=upd H p (.tup [x,y]),fun i H=>SqT K H l1 xs∧SqT K H l2 ys∧min xs.length ys.length≤i⟩
def iZip (K:PySem.W.Frag)(ta tb:TE):TI:=fun σ H R=>zav ta (zav tb tNil) σ H fun vs H1=>∃l1 l2 xs ys,vs=[.ref l1,.ref l2]∧SqT K H1 l1 xs∧SqT K H1 l2 ys∧R (Itz K l1 l2 xs ys) H1
section
variable {X:Cx}
theorem pi_zipP {Z:List V→Hp→(It→Hp→Prop)→Prop}(hZ:∀vs H1 R,Z vs H1 R→∃(v1 v2:V) (xs ys:List V) (G1 G2:Hp→Prop),vs=[v1,v2]∧ZArg X.K H1 v1 xs G1∧ZArg X.K H1 v2 ys G2∧R (ItzG G1 G2 xs ys) H1){elts:List Expr}{k:Nat}{tpos:Pos}{a b:Expr}{ta tb:TE}{p pos:Pos}(hg:Gl X "zip")(hm:X.mg "zip" = none)(ha:PE X a ta)(hb:PE X b tb)
  (hs:starEach [a,b] X.env=[(false,eval a X.env),(false,eval b X.env)]:=by rfl) (hs2:starEach [b] X.env=[(false,eval b X.env)]:=by rfl) :
  PI X (.Tuple elts k tpos) (.Call (.Name "zip" p) [a,b] [] pos) (fun σ H R=>zav ta (zav tb tNil) σ H fun vs H1=>Z vs H1 R):=by
 intro pins s σ H R I h
 have hA:PA X [a,b] (zav ta (zav tb tNil)):=xK ha (xK hb uD hs2) (by rw[hs,hs2])
 refine wpAny_Call_Name_kw (zas I hg hm boot_zip ?_)
 refine PyProof.Rows.callWith_type1 (thn (hA pos pins s σ H _ I h) fun us s1 hq35=>?_) (by rw[hs,hs2]) (by rw[hs2];rfl)
 obtain⟨vs,H2,I2,r2,zz⟩:=hq35
 obtain⟨v1,v2,xs,ys,G1,G2,ev,q1,q2,q⟩:=hZ _ _ _ zz
 subst ev
 obtain⟨u1,u2,rfl,ru1,ru2⟩:=vals2 r2
 obtain⟨g1,o1,C1,f1,c1,p1,b1,m1⟩:=zarg I2 q1 ru1
 obtain⟨g2,o2,C2,f2,c2,p2,b2,m2⟩:=zarg I2 q2 ru2
 obtain⟨S1,A1,st1⟩:=m1 s1.heap.objs.size (Nat.le_refl _)
 obtain⟨S2,A2,st2⟩:=m2 (s1.heap.objs.size+1) (Nat.le_succ _)
 refine call_zipV f1 f2 b1 b2 (fun h c=>p2 h _ c) c1 c2 fun h1 m5=>?_
 obtain⟨m1,m2,m3,m4,m6,m7,m8⟩:=m5
 have T:=turn_zipG (P:=X.prog) (w:=X.w) (K:=X.K) (elts:=elts) (k:=k) (pos:=tpos) A1 A2
 refine T.self X.A 0 _ _ _ ⟨_,_,_,m1,m2,m3,st1 _ m4,st2 _ m6⟩ ?_
 have I3:Inv X pins σ H2 {s1 with heap:=h1}:=I2.kept (t':=s1.toks) m8
 refine⟨_,fpZ s1.heap.objs.size,_,ItzG G1 G2 xs ys,H2,rfl,I3,T,⟨_,_,_,m1,m2,m3,st1 _ m4,st2 _ m6⟩,fun c hc=>?_,q⟩
 have hge:s1.heap.objs.size≤c:=by
  simp only[fpZ,List.mem_cons,List.mem_nil_iff,or_false] at hc
  rcases hc with rfl|rfl|rfl|rfl|rfl
  ·exact Nat.le_add_right _ _
  ·exact Nat.le_add_right _ _
  ·exact Nat.le_add_right _ _
  ·exact Nat.le_refl _
  ·exact Nat.le_add_right _ _
 obtain⟨f0,f1,f2,f3,f4,f5⟩:=I2.fpOk hge (I2.hok.fresh hge)
 exact⟨f0,f1,f2,f3,f4,f5⟩
theorem pi_ziptt {elts:List Expr}{k:Nat}{tpos:Pos}{a b:Expr}{ta tb:TE}{p pos:Pos}(hg:Gl X "zip")(hm:X.mg "zip" = none)(ha:PE X a ta)(hb:PE X b tb)
  (hs:starEach [a,b] X.env=[(false,eval a X.env),(false,eval b X.env)]:=by rfl) (hs2:starEach [b] X.env=[(false,eval b X.env)]:=by rfl) :
  PI X (.Tuple elts k tpos) (.Call (.Name "zip" p) [a,b] [] pos) (iZip X.K ta tb):=pi_zipP (fun vs H1 R ⟨l1,l2,xs,ys,e,q1,q2,r⟩=>⟨_,_,xs,ys,_,_,e,.inl ⟨l1,rfl,q1,rfl⟩,.inl ⟨l2,rfl,q2,rfl⟩,r⟩) hg hm ha hb hs hs2
end
end L2
namespace L2
open PySem PySem.Spec PyProof.Rows
def Srt (ls:List (List Nat)):Prop:=ls.Pairwise (·≤·)
theorem zeu {a b:List Nat}(h:ltCps b a=false):a≤b:=by
 rw[ltCps_eq] at h
 exact List.not_lt.mp (of_decide_eq_false h)
theorem zan:∀(p:Str) (l:List Str),risingS p l=true→(p::l).Pairwise fun a b=>a.cps.toList≤b.cps.toList
 | p,[],_=>by simp
 | p,x::r,h=>by
  have h':(!ltCps x.cps.toList p.cps.toList&&risingS x r)=true:=h
  rw[Bool.and_eq_true] at h'
  have h1:p.cps.toList≤x.cps.toList:=zeu (by simpa using h'.1)
  have h2:=zan x r h'.2
  refine List.pairwise_cons.mpr ⟨fun y hy=>?_,h2⟩
  rcases List.mem_cons.mp hy with rfl|hy
  ·exact h1
  ·exact List.le_trans h1 (List.rel_of_pairwise_cons h2 hy)
theorem srt_of {ss:List Str}(h:sortedS ss=true):Srt (ss.map fun x=>x.cps.toList):=by
 unfold Srt
 rw[List.pairwise_map]
 cases ss with
 | nil=>simp
 | cons x r=>exact zan x r h
theorem zbg:∀{us:List Value}{ss:List Str},StrsAre us ss→Vals (ss.map V.str) us
 | _,_,.nil=>.nil
 | _,_,.cons x t h=>.cons ⟨t,rfl⟩ (zbg h)
def vT (ls:List (List Nat)):List V:=ls.map fun l=>V.str (T l)
theorem vT_str (ss:List Str):ss.map V.str=vT (ss.map fun x=>x.cps.toList):=by
 unfold vT
 rw[List.map_map]
 exact List.map_congr_left fun x _=>congrArg V.str (T_of x).symm
theorem vT_T (ls:List (List Nat)):vT ls=(ls.map T).map V.str:=by unfold vT;rw[List.map_map];rfl
section
variable {X:Cx}
theorem zdP:jj X (.builtin "sorted") (fun xs H Q=>∃a ls,xs=[.ref a]∧SqL X.K H a (vT ls)∧ls.length<64∧∀p ms,H p=none→ms.Perm ls→Srt ms→Q (.ref p) (upd H p (.lst (vT ms)))):=by
 intro pins s σ H xs us Q I r h
 obtain⟨a,ls,rfl,ha,h64,q⟩:=h
 obtain⟨u,rfl,ru⟩:=vals1 r
 cases ru
 obtain⟨its,rv,pl,hz⟩:=I.list ha
 rw[vT_T] at rv
 have hl:=rv.length
 simp only[List.length_map] at hl
 refine sorted_strs pl.isList (jK rv) (by omega) fun out ss' h1 h2 h3=>?_
 have hS:=srt_of h3
 have hP:(ss'.map fun x=>x.cps.toList).Perm ls:=by
  have:=h2.map fun x:Str=>x.cps.toList
  rw[List.map_map] at this
  have e:ls.map ((fun x:Str=>x.cps.toList)∘T)=ls:=by
   have:((fun x:Str=>x.cps.toList)∘T)=id:=funext fun l=>zbD l
   rw[this,List.map_id]
  rw[e] at this
  exact this
 obtain⟨c,hat⟩:=sortedAll_at s.heap its out
 have hlen:ss'.length=ls.length:=by have:=h2.length_eq;simpa using this
 refine⟨.ref (s.heap.objs.size+1),_,I.laid (t':=s.toks) (o:=.lst (vT (ss'.map fun x=>x.cps.toList))) (fun b o e=>sortedAll_old e) (Nat.le_succ _) ?_,rfl,q _ _ (I.hok.fresh (Nat.le_succ _)) hP hS⟩
 refine⟨?_,out.toList,c,?_,by simpa [seqObj] using hat⟩
 ·rw[← vT_str,List.length_map,sizeLine_eq];omega
 ·rw[← vT_str];exact zbg h1
def Itr3 (lo c:Int)(n:Nat):It:=⟨fun i _=>i<n,fun i H x H'=>H'=H∧x=.int (lo+(i:Int)*c),fun i _=>n≤i⟩
theorem wlk_range3 {lo c:Int}{n:Nat}{G:Hp→Prop}:Wlk (Itr3 lo c n) G ((List.range n).map fun(k:Nat)=>V.int (lo+(k:Int)*c)):=fun H _=>by
 refine⟨fun i hi=>⟨by show i<n;simpa using hi,fun x H' y=>⟨y.1,?_⟩⟩,?_⟩
 ·have hi':i<n:=by simpa using hi
  rw[y.2];simp[hi']
 ·show n≤_;simp
theorem zeo {P:Program}{w:World}{K:PySem.W.Frag}{tg:Expr}(it:Addr)(lo c:Int)(n:Nat):Turn P w K tg (Itr3 lo c n) [it] it (fun i h=>IsRangeIter h it (lo+(i:Nat)*c) ((n:Int) - (i:Nat)) c) where
 mem:=by simp
 obj:=fun i h st b hb=>by
  have e:b=it:=by simpa using hb
  subst e
  exact ⟨_,st,fun v z=>by
   have z':Data.fields _=Data.cell v:=z
   cases z'⟩
 keep:=fun i h h' st k=>k it (by simp) _ st
 item:=by
  intro X hP hw hK hc i pins s σ H E I hf st hg
  subst hP hw hK
  obtain⟨f0,f1,f2,f3,f4,f5⟩:=hf it (by simp)
  have W:=Walks.range (prog:=X.prog) (w:=X.w) (I.ok.hd hc) it lo c n
  refine W.item i s _ _ hg st fun v h' tk hv st' kk=>?_
  obtain⟨t,rfl⟩:=hv
  have I1:Inv X pins σ H {s with heap:=h',toks:=tk}:=I.turned (fun b o hb e=>kk b o (by simpa using hb) e) f0 f1 f3 f4 f5
  exact⟨_,rfl,go_of (s:={s with heap:=h',toks:=tk}) (n := "range_iterator") st' rfl rfl (by decide) ⟨.int (lo+i*c),H,I1,⟨t,rfl⟩,⟨rfl,rfl⟩,st',fun b hb=>(hf b hb).1⟩⟩
 done:=by
  intro X hP hw hK hc i pins s σ H E I hf st hg
  subst hP hw hK
  obtain⟨f0,f1,f2,f3,f4,f5⟩:=hf it (by simp)
  exact wpAny_pyNext_range_end (I.ok.hd hc) st (by have:n≤i:=hg;omega) fun h' eb=>⟨rfl,I.turned (t':=s.toks) (fun b o hb e=>eb b o hb e) f0 f1 f3 f4 f5⟩
 self:=fun _ _ _ _ _ st h=>wpAny_pyIter_rangeiter st h
def iRng3 (ta:TA):TI:=fun σ H R=>ta σ H fun vs H1=>∃i j c:Int,vs=[.int i,.int j,.int c]∧0≤i∧i≤j∧j<2 ^ 20∧0<c∧c<2 ^ 20∧R (Itr3 i c ((j - i+c - 1) / c).toNat) H1
theorem small3 {a b c:Int}(h0:0≤a)(h1:a≤b)(h2:b<2 ^ 20)(h3:0<c)(h4:c<2 ^ 20):Builtin.Range.small a b c=true:=by
 have hr:0≤Builtin.Range.rangeSize a b c∧Builtin.Range.rangeSize a b c≤2 ^ 20:=by
  unfold Builtin.Range.rangeSize
  rw[if_pos (show c > 0 from h3)]
  split
  ·have e1:0≤(b - a - 1) / c:=Int.ediv_nonneg (by omega) (by omega)
   have e2:(b - a - 1) / c≤b - a - 1:=Int.ediv_le_self _ (by omega)
   omega
  ·omega
 have hm:(Builtin.Range.rangeSize a b c)*c≤2 ^ 40:=by
  have:=Int.mul_le_mul hr.2 (Int.le_of_lt h4) (by omega) (by decide)
  have e:(2:Int) ^ 20*2 ^ 20=2 ^ 40:=by decide
  omega
 have hm0:0≤(Builtin.Range.rangeSize a b c)*c:=Int.mul_nonneg hr.1 (by omega)
 unfold Builtin.Range.small
 simp only[Builtin.Range.rangeFitsLong,Bool.and_eq_true,Bool.or_eq_true,decide_eq_true_eq,beq_iff_eq,if_pos (show c > 0 from h3)]
 generalize Builtin.Range.rangeSize a b c=n at *
 omega
theorem pi_range3 {tg a b c:Expr}{ta:TA}{p pos:Pos}(hg:Gl X "range")(hm:X.mg "range" = none)(ha:PA X [a,b,c] ta)(hs:starEach [a,b,c] X.env=[(false,eval a X.env),(false,eval b X.env),(false,eval c X.env)]:=by rfl)(hs2:starEach [b,c] X.env=[(false,eval b X.env),(false,eval c X.env)]:=by rfl) :
  PI X tg (.Call (.Name "range" p) [a,b,c] [] pos) (iRng3 ta):=by
 intro pins s σ H R I h
 refine Call_ (zas I hg hm boot_range (PyProof.Rows.callWith_type1 (thn (ha pos pins s σ H _ I h) fun us s1 hq36=>?_) (by rw[hs,hs2]) (by rw[hs2];rfl)))
 obtain⟨vs,H1,I1,r1,q1⟩:=hq36
 obtain⟨i,j,c,e,h0,h1,h2,h3,h4,q⟩:=q1
 subst e
 cases r1 with
 | cons r rr =>
  cases rr with
  | cons r' rr =>
   cases rr with
   | cons r'' rr =>
    cases rr
    obtain⟨t,rfl⟩:=r
    obtain⟨t',rfl⟩:=r'
    obtain⟨t'',rfl⟩:=r''
    refine call_range_3 (by omega) ?_ (Or.inl (PyProof.noPylong_small (by omega)))
    refine wpAny_pyIter_range (IsRange.new ..) (small3 h0 h1 h2 h3 h4) ?_
    have I2:Inv X pins σ H1 {s1 with heap:=s1.heap.push {cls:=.type "range", data:=.fields #[.int i t,.int j t',.int c t'']} }:=I1.kept (t':=s1.toks) fun b o e=>Heap.get?_push_of_some _ e
    refine ⟨(s1.heap.push {cls:=.type "range", data:=.fields #[.int i t,.int j t',.int c t'']}).objs.size,[(s1.heap.push {cls:=.type "range", data:=.fields #[.int i t,.int j t',.int c t'']}).objs.size],_,_,H1,rfl,
     I2.kept (t':=s1.toks) fun b o e=>Heap.get?_push_of_some _ e,zeo _ i c _,?_,fun b hb=>?_,q⟩
    ·have e1:i+((0:Nat):Int)*c=i:=by simp
     have e2:(((((j - i+c - 1) / c).toNat:Nat):Int)) - ((0:Nat):Int)=Builtin.Range.rangeSize i j c:=by
      unfold Builtin.Range.rangeSize
      rw[if_pos (show c > 0 from h3)]
      have e3:(j - i+c - 1) / c=(j - i - 1) / c+1:=by
       have:j - i+c - 1=(j - i - 1)+c*1:=by omega
       rw[this,Int.add_mul_ediv_left _ _ (by omega)]
      split
      ·have:=Int.ediv_nonneg (show 0≤j - i - 1 by omega) (show 0≤c by omega)
       omega
      ·have:j - i - 1 = -1:=by omega
       rw[e3,this,Int.ediv_eq_neg_one_of_neg_of_le (by omega) (by omega)]
       simp
     show IsRangeIter _ _ (i+((0:Nat):Int)*c) (((((j - i+c - 1) / c).toNat:Nat):Int) - ((0:Nat):Int)) c
     rw[e1,e2]
     exact Heap.get?_push_size _ rfl
    ·have e:b=(s1.heap.push {cls:=.type "range", data:=.fields #[.int i t,.int j t',.int c t'']}).objs.size:=by simpa using hb
     subst e
     exact I2.fpOk (Nat.le_refl _) (I2.hok.fresh (Nat.le_refl _))
theorem pg_two {K:PySem.W.Frag}{i j:Nat}{x y:Str}{px py pos:Pos}{k:Nat}(hK:X.K=K)(hc:X.calm=true)(hN:X.N.Nodup)(hi:X.N[i]? = some x)(hj:X.N[j]? = some y)(hx:Loc X.env.scope x)(hy:Loc X.env.scope y)
  (fx:X.fn x=true∨X.env.scope.names.lookup x=some .local:=by first|exact .inl rfl|exact .inr rfl|assumption) (fy:X.fn y=true∨X.env.scope.names.lookup y=some .local:=by first|exact .inl rfl|exact .inr rfl|assumption) :
  PG X (.Tuple [.Name x px,.Name y py] k pos) (gTup K 2 (za9 (wC i) (za9 (wC j) gNil))):=hK▸pg_tup hc (pgs_cons (z9 hN hi hx fx) (pgs_cons (z9 hN hj hy fy) pgs_nil))
end
theorem turns_zip {K:PySem.W.Frag}{l1 l2:Addr}{xs ys:List V}(hz:xs.length≤sizeLine){g:TG}{tt:TT}{te:TE}{σ0:St}{F:List V→Hp→Prop}{H1:Hp}(Pv:Nat→List V→Hp→Prop)(h0:Pv 0 [] H1)(hG:∀i vs H,Pv i vs H→SqT K H l1 xs∧SqT K H l2 ys∧vs.length≤i)
  (hs:∀i x y p vs H,xs[i]? = some x→ys[i]? = some y→H p=none→Pv i vs H→g (.ref p) σ0 (upd H p (.tup [x,y])) fun σ2 H2=>Kps σ0 σ2∧tt σ2 H2 fun b H3=>if b=true then te σ2 H3 fun v H4=>Pv (i+1) (vs++[v]) H4 else Pv (i+1) vs H3) (hd:∀vs H,Pv (min xs.length ys.length) vs H→F vs H) :
  zam g tt te σ0 F (Itz K l1 l2 xs ys) H1:=by
 refine⟨fun i m vs H=>m=min xs.length ys.length - i∧i≤min xs.length ys.length∧Pv i vs H,⟨_,rfl,Nat.zero_le _,h0⟩,?_⟩
 rintro i m vs H ⟨rfl,hi,p⟩
 obtain⟨q1,q2,hl⟩:=hG i vs H p
 refine⟨by omega,?_⟩
 by_cases hlt:i<min xs.length ys.length
 ·refine .inr ⟨⟨q1,q2,hlt⟩,by omega,Pv (i+1),fun vs' H' p'=>⟨min xs.length ys.length - (i+1),by omega,rfl,hlt,p'⟩,?_⟩
  rintro v H' ⟨a,x,y,e0,e1,e2,rfl,rfl⟩
  exact hs i x y a vs H e1 e2 e0 p
 ·have e:i=min xs.length ys.length:=by omega
  subst e
  exact .inl ⟨⟨q1,q2,Nat.le_refl _⟩,hd vs H p⟩
theorem for_zip {K:PySem.W.Frag}{l1 l2:Addr}{xs ys:List V}{g:TG}{tb:TS}{D:Ends}{σ:St}{H:Hp}(Pv:Nat→St→Hp→Prop)(h0:Pv 0 σ H)(hG:∀i σ H,Pv i σ H→SqT K H l1 xs∧SqT K H l2 ys)
  (hs:∀i x y p σ H,xs[i]? = some x→ys[i]? = some y→H p=none→Pv i σ H→g (.ref p) σ (upd H p (.tup [x,y])) fun σ2 H2=>tb {D with nx:=Pv (i+1),ct:=Pv (i+1),bk:=D.nx} σ2 H2) (hd:∀σ H,Pv (min xs.length ys.length) σ H→D.nx σ H) :
  ∃ W:Nat→Nat→St→Hp→Prop,(∃m,W 0 m σ H)∧∀i m σ H,W i m σ H →
   ((Itz K l1 l2 xs ys).stop i H∧D.nx σ H)∨((Itz K l1 l2 xs ys).go i H∧∃N:St→Hp→Prop,(∀σ' H',N σ' H'→∃m',m'<m∧W (i+1) m' σ' H')∧∀x H',(Itz K l1 l2 xs ys).yld i H x H'→g x σ H' fun σ2 H2=>tb {D with nx:=N,ct:=N,bk:=D.nx} σ2 H2):=by
 refine⟨fun i m σ H=>m=min xs.length ys.length - i∧i≤min xs.length ys.length∧Pv i σ H,⟨_,rfl,Nat.zero_le _,h0⟩,?_⟩
 rintro i m σ H ⟨rfl,hi,p⟩
 obtain⟨q1,q2⟩:=hG i σ H p
 by_cases hlt:i<min xs.length ys.length
 ·refine .inr ⟨⟨q1,q2,hlt⟩,Pv (i+1),fun σ' H' p'=>⟨min xs.length ys.length - (i+1),by omega,rfl,hlt,p'⟩,?_⟩
  rintro v H' ⟨a,x,y,e0,e1,e2,rfl,rfl⟩
  exact hs i x y a σ H e1 e2 e0 p
 ·have e:i=min xs.length ys.length:=by omega
  subst e
  exact .inl ⟨⟨q1,q2,Nat.le_refl _⟩,hd σ H p⟩
end L2
namespace My
def abcd:List Nat:=[97,98,99,100]
def wt (ws:List Int)(c:Nat):Int:=ws.getD (c - 97) 0
def up (ws:List Int):List Nat→Int
 | []=>1
 | c::r=>wt ws c*up ws r
def dn (ws:List Int)(l:List Nat):Int:=ws.sum ^ l.length
def SrcOk (ws:List Int):Prop:=2≤ws.length∧ws.length≤4∧∀w∈ws,1≤w∧w≤99
def LetOk (m:Nat)(l:List Nat):Prop:=∀c∈l,97≤c∧c<97+m
theorem LetOk.app {m:Nat}{l k:List Nat}(a:LetOk m l)(b:LetOk m k):LetOk m (l++k):=fun c hc=>by
 rcases List.mem_append.mp hc with h|h
 ·exact a c h
 ·exact b c h
theorem pow_mono {a:Int}(ha:1≤a){n m:Nat}(h:n≤m):a ^ n≤a ^ m:=by
 obtain⟨k,rfl⟩:=Nat.exists_eq_add_of_le h
 rw[Int.pow_add]
 have h1:0<a ^ n:=Int.pow_pos (by omega)
 have h2:0<a ^ k:=Int.pow_pos (by omega)
 have:=Int.mul_le_mul_of_nonneg_left (show(1:Int)≤a ^ k by omega) (Int.le_of_lt h1)
 omega
def Fra (B:Nat)(x:Int×Int):Prop:=0≤x.1∧0<x.2∧x.1<2 ^ B∧x.2<2 ^ B
theorem Fra.mono {B C:Nat}{x:Int×Int}(h:Fra B x)(hBC:B≤C):Fra C x:=by
 have:=pow_mono (a:=2) (by decide) hBC
 obtain⟨a,b,c,d⟩:=h
 exact⟨a,b,by omega,by omega⟩
section
variable {ws:List Int}(h:SrcOk ws)
include h
def acc (ws:List Int)(l:List Nat)(S:Int):Int×Int:=low (up ws l*S) (dn ws l*ws.sum)
end
section
variable {a b c d e f:Int}(hb:0<b)(hd:0<d)(hf:0<f)
include hb
end
end My
namespace My
def rising (ps:List (List Nat)):Bool:=(ps.zip ps.tail).all fun x=>decide (x.1<x.2)
def isInner (ps:List (List Nat))(x:List Nat):Bool:=ps.any fun p=>x.isPrefixOf p && !decide (p=x)
def yF (ps:List (List Nat))(x:List Nat):Bool:=!(ps.any fun p=>x.isPrefixOf p || p.isPrefixOf x)
def zP (m:Nat)(xs:List (List Nat)):List (List Nat):=xs.flatMap fun x=>(abcd.take m).map fun c=>x++[c]
def wU (ps:List (List Nat)):Option (List Nat×List Nat):=(ps.zip ps.tail).find? fun x=>x.1.isPrefixOf x.2
def fta (m:Nat)(ps:List (List Nat)):Nat→List (List Nat)→Option (List Nat)
 | 0,_=>none
 | n+1,inner=>if inner=[] then none else match (zP m inner).find? (yF ps) with
  | some x=>some x
  | none=>fta m ps n ((zP m inner).filter (isInner ps))
def wW (m:Nat)(ps:List (List Nat)):Option (List Nat):=fta m ps 10 [[]]
def isBook (m:Nat)(ps:List (List Nat)):Bool:=rising ps&&(wU ps).isNone&&(wW m ps).isNone
theorem goneOn_len (m:Nat)(hm:m≤4)(xs:List (List Nat)):(zP m xs).length≤4*xs.length:=by
 unfold zP
 induction xs with
 | nil=>simp
 | cons x r ih =>
  rw[List.flatMap_cons,List.length_append,List.length_map,List.length_take,List.length_cons]
  omega
theorem j6 {m:Nat}{xs:List (List Nat)}{y:List Nat}(h:y∈zP m xs):∃x∈xs,∃c∈abcd.take m,y=x++[c]:=by
 unfold zP at h
 obtain⟨x,hx,hy⟩:=List.mem_flatMap.mp h
 obtain⟨c,hc,rfl⟩:=List.mem_map.mp hy
 exact⟨x,hx,c,hc,rfl⟩
theorem zdl {ps:List (List Nat)}{x:List Nat}(h:isInner ps x=true)(h8:∀p∈ps,p.length≤9):x.length<9:=by
 unfold isInner at h
 obtain⟨p,hp,e⟩:=List.any_eq_true.mp h
 rw[Bool.and_eq_true] at e
 obtain⟨s,rfl⟩:=List.isPrefixOf_iff_prefix.mp e.1
 have hs:s≠[]:=fun z=>by subst z;simp at e
 have:=h8 _ hp
 rw[List.length_append] at this
 have:=List.length_pos_iff.mpr hs
 omega
def addK (ks:List (List Nat))(k:List Nat):List (List Nat):=if k∈ks then ks else ks++[k]
def begs (p:List Nat):List (List Nat):=(List.range p.length).map fun e=>p.take e
def z8 (ps:List (List Nat)):List (List Nat):=(ps.flatMap begs).foldl addK []
def sortF (ls:List (List Nat)):List (List Nat):=ls.mergeSort fun a b=>!decide (b<a)
theorem jC (ls:List (List Nat)):(sortF ls).Pairwise (·≤·):=by
 have h:=List.pairwise_mergeSort (le:=fun a b:List Nat=>!decide (b<a)) (fun a b c h1 h2=>by
  have h1':a≤b:=List.not_lt.mp (by simpa using h1)
  have h2':b≤c:=List.not_lt.mp (by simpa using h2)
  have h3:¬c<a:=List.not_lt.mpr (List.le_trans h1' h2')
  simpa using h3) (fun a b=>by
  rcases List.le_total a b with h|h
  ·have:=List.not_lt.mpr h
   simp[this]
  ·have:=List.not_lt.mpr h
   simp[this]) ls
 exact h.imp fun h=>List.not_lt.mp (by simpa using h)
theorem xT (ls:List (List Nat)):(sortF ls).Perm ls:=List.mergeSort_perm ls _
theorem sortF_eq {ls ms:List (List Nat)}(h:ms.Pairwise (·≤·))(p:ms.Perm ls):ms=sortF ls:=List.Perm.eq_of_pairwise (fun _ _ _ _ h k=>List.le_antisymm h k) h (jC ls) (p.trans (xT ls).symm)
def zQ (ps:List (List Nat))(s:List (List Nat)×List Nat)(c:Nat):List (List Nat)×List Nat:=if s.2++[c]∈ps then(s.1++[s.2++[c]],[]) else(s.1,s.2++[c])
def yd (ps:List (List Nat))(l:List Nat):List (List Nat)×List Nat:=l.foldl (zQ ps) ([],[])
theorem uZ (ps:List (List Nat))(l:List Nat):(yd ps l).1.length≤l.length∧(yd ps l).2.length≤l.length:=by
 have key:∀(l:List Nat) (s:List (List Nat)×List Nat),(l.foldl (zQ ps) s).1.length≤s.1.length+l.length∧(l.foldl (zQ ps) s).2.length≤s.2.length+l.length:=by
  intro l
  induction l with
  | nil=>intro s;simp
  | cons c r ih =>
   intro s
   rw[List.foldl_cons,List.length_cons]
   have:=ih (zQ ps s c)
   have h1:(zQ ps s c).1.length≤s.1.length+1∧(zQ ps s c).2.length≤s.2.length+1:=by
    unfold zQ
    split <;>simp
   omega
 have:=key l ([],[])
 simpa [yd] using this
structure Book (m:Nat)(B:List (List Nat)):Prop where
 m2:2≤m
 m4:m≤4
 let_:∀p∈B,LetOk m p
 ne:∀p∈B,p≠[]
 pf:∀p∈B,∀q∈B,p <+: q→p=q
 cv:∀x,LetOk m x→∃p∈B,p <+: x∨x <+: p
 srt:B.Pairwise (·≤·)
 nd:B.Nodup
theorem abcd_let {m c:Nat}(h:c∈abcd.take m):97≤c∧c<97+m:=by
 obtain⟨i,hi,rfl⟩:=List.mem_iff_getElem.mp h
 have h1:i<m:=by rw[List.length_take] at hi;omega
 have h2:i<4:=by rw[List.length_take] at hi;have:abcd.length=4:=rfl;omega
 rw[List.getElem_take]
 have:i=0∨i=1∨i=2∨i=3:=by omega
 rcases this with rfl|rfl|rfl|rfl
 ·show 97≤97∧97<_;omega
 ·show 97≤98∧98<_;omega
 ·show 97≤99∧99<_;omega
 ·show 97≤100∧100<_;omega
theorem vQ {m c:Nat}(hm:m≤4)(h:97≤c∧c<97+m):c∈abcd.take m:=by
 have:m=0∨m=1∨m=2∨m=3∨m=4:=by omega
 have:c=97∨c=98∨c=99∨c=100:=by omega
 rcases this with rfl|rfl|rfl|rfl <;>rcases(by assumption:m=0∨_) with rfl|rfl|rfl|rfl|rfl <;>first|decide|omega
theorem abcd_nd (m:Nat):(abcd.take m).Nodup:=List.Sublist.nodup (List.take_sublist _ _) (by decide)
theorem LetOk.one {m c:Nat}(h:c∈abcd.take m):LetOk m [c]:=fun d hd=>by rw[List.mem_singleton.mp hd];exact abcd_let h
theorem LetOk.pre {m:Nat}{x y:List Nat}(h:LetOk m y)(p:x <+: y):LetOk m x:=fun c hc=>h c (p.subset hc)
theorem not_apart {m:Nat}{B:List (List Nat)}(h:Book m B){x:List Nat}(hx:LetOk m x):yF B x=false:=by
 obtain⟨p,hp,e⟩:=h.cv x hx
 unfold yF
 rw[Bool.not_eq_false',List.any_eq_true]
 refine⟨p,hp,?_⟩
 rw[Bool.or_eq_true,List.isPrefixOf_iff_prefix,List.isPrefixOf_iff_prefix]
 exact e.symm
theorem zb1 {m:Nat}{xs:List (List Nat)}(h:∀x∈xs,LetOk m x):∀y∈zP m xs,LetOk m y:=fun y hy=>by
 obtain⟨x,hx,c,hc,rfl⟩:=j6 hy
 exact(h x hx).app (LetOk.one hc)
theorem fta_none {m:Nat}{B:List (List Nat)}(h:Book m B):∀(n:Nat) (xs:List (List Nat)),(∀x∈xs,LetOk m x)→fta m B n xs=none
 | 0,_,_=>rfl
 | n+1,xs,hx=>by
  unfold fta
  split
  ·rfl
  ·have hg:=zb1 hx
   have e:(zP m xs).find? (yF B)=none:=List.find?_eq_none.mpr fun x hx=>by rw[not_apart h (hg x hx)];exact Bool.false_ne_true
   rw[e]
   exact fta_none h n _ fun x hx=>hg x (List.mem_filter.mp hx).1
theorem zbO {m:Nat}{B:List (List Nat)}(h:Book m B):wW m B=none:=fta_none h 10 [[]] fun x hx=>by
 rw[List.mem_singleton.mp hx]
 intro c hc
 cases hc
theorem zdQ {α:Type}:∀{l:List α}{x:α×α},x∈l.zip l.tail→x.1∈l∧x.2∈l:=fun {l x} h=>⟨(List.of_mem_zip h).1,List.mem_of_mem_tail (List.of_mem_zip h).2⟩
theorem uU {α:Type}{R:α→α→Prop}:∀{l:List α},l.Pairwise R→∀x∈l.zip l.tail,R x.1 x.2
 | [],_,x,h=>by cases h
 | [_],_,x,h=>by cases h
 | a::b::r,p,x,h=>by
  have h':x∈(a,b)::(b::r).zip r:=h
  rcases List.mem_cons.mp h' with rfl|h'
  ·exact List.rel_of_pairwise_cons p List.mem_cons_self
  ·exact uU (l:=b::r) (List.pairwise_cons.mp p).2 x h'
theorem strict {B:List (List Nat)}(s:B.Pairwise (·≤·))(n:B.Nodup):B.Pairwise (· < ·):=by
 have:=List.Pairwise.and s n
 exact this.imp fun⟨h,k⟩=>Classical.byContradiction fun hn=>k (List.le_antisymm h (List.not_lt.mp hn))
theorem zbQ {m:Nat}{B:List (List Nat)}(h:Book m B):wU B=none:=by
 refine List.find?_eq_none.mpr fun x hx=>?_
 intro e
 have hm:=zdQ hx
 have:=h.pf _ hm.1 _ hm.2 (List.isPrefixOf_iff_prefix.mp e)
 have lt:=uU (strict h.srt h.nd) x hx
 rw[this] at lt
 exact List.lt_irrefl _ lt
theorem rising_of {m:Nat}{B:List (List Nat)}(h:Book m B):rising B=true:=by
 unfold rising
 rw[List.all_eq_true]
 exact fun x hx=>decide_eq_true (uU (strict h.srt h.nd) x hx)
theorem Book.isBook {m:Nat}{B:List (List Nat)}(h:Book m B):isBook m B=true:=by
 unfold My.isBook
 rw[rising_of h,zbQ h,zbO h]
 rfl
def kids (m:Nat)(p:List Nat):List (List Nat):=(abcd.take m).map fun c=>p++[c]
theorem kids_mem {m:Nat}{p x:List Nat}:x∈kids m p↔∃c∈abcd.take m,x=p++[c]:=by
 unfold kids
 rw[List.mem_map]
 exact⟨fun⟨c,h,e⟩=>⟨c,h,e.symm⟩,fun⟨c,h,e⟩=>⟨c,h,e.symm⟩⟩
theorem kids_nd (m:Nat)(p:List Nat):(kids m p).Nodup:=by
 unfold kids
 rw[List.nodup_iff_pairwise_ne,List.pairwise_map]
 refine(abcd_nd m).imp fun h e=>h ?_
 exact List.singleton_inj.mp (List.append_cancel_left e)
theorem zcH (m:Nat)(hm:m≤4)(p:List Nat):(kids m p).length=m:=by
 unfold kids
 rw[List.length_map,List.length_take]
 show min m 4=m
 omega
theorem cv_of {m:Nat}(hm:2≤m){B:List (List Nat)}{p:List Nat}(hp:∀x∈kids m p,x∈B){x:List Nat}(hx:LetOk m x)(m4:m≤4)(h:p <+: x∨x <+: p):∃q∈B,q <+: x∨x <+: q:=by
 have h97:97∈abcd.take m:=vQ m4 (by omega)
 rcases h with⟨s,rfl⟩|h
 ·cases s with
  | nil=>exact⟨p++[97],hp _ (kids_mem.mpr ⟨97,h97,rfl⟩),.inr (by rw[List.append_nil];exact List.prefix_append _ _)⟩
  | cons c r =>
   have hc:=hx c (by simp)
   exact⟨p++[c],hp _ (kids_mem.mpr ⟨c,vQ m4 hc,rfl⟩),.inl ⟨r,by simp⟩⟩
 ·exact⟨p++[97],hp _ (kids_mem.mpr ⟨97,h97,rfl⟩),.inr (h.trans (List.prefix_append _ _))⟩
theorem zaT (p:List Nat)(c:Nat):p++[c]≠p:=fun e=>by have:=congrArg List.length e;simp at this
def part (m:Nat)(B:List (List Nat))(j:Nat):List (List Nat):=sortF (B.eraseIdx j++kids m (B.getD j []))
theorem part_mem {m:Nat}{B:List (List Nat)}(hn:B.Nodup){j:Nat}(hj:j<B.length){x:List Nat}:x∈part m B j↔(x∈B∧x≠B.getD j [])∨x∈kids m (B.getD j []):=by
 unfold part
 rw[(xT _).mem_iff,List.mem_append]
 have e:B.getD j []=B[j]:=by rw[List.getD_eq_getElem?_getD,List.getElem?_eq_getElem hj];rfl
 have:x∈B.eraseIdx j↔x∈B∧x≠B.getD j []:=by
  rw[List.mem_eraseIdx_iff_getElem,e]
  constructor
  ·rintro⟨i,hi,hij,rfl⟩
   exact⟨List.getElem_mem hi,fun z=>hij ((List.getElem_inj hn).mp z)⟩
  ·rintro⟨hx,hne⟩
   obtain⟨i,hi,rfl⟩:=List.mem_iff_getElem.mp hx
   exact⟨i,hi,fun z=>hne (by subst z;rfl),rfl⟩
 rw[this]
theorem Book.part {m:Nat}{B:List (List Nat)}(h:Book m B){j:Nat}(hj:j<B.length):Book m (part m B j):=by
 have hpm:B.getD j []∈B:=by rw[List.getD_eq_getElem?_getD,List.getElem?_eq_getElem hj];exact List.getElem_mem hj
 have mem:=fun x=>part_mem (m:=m) h.nd hj (x:=x)
 have hsr:(My.part m B j).Pairwise (·≤·):=jC _
 have hnd:(My.part m B j).Nodup:=by
  unfold My.part
  refine(xT _).nodup_iff.mpr (List.nodup_append.mpr ⟨h.nd.eraseIdx j,kids_nd _ _,?_⟩)
  rintro a ha b hb rfl
  have haB:a∈B:=List.mem_of_mem_eraseIdx ha
  obtain⟨c,hc,rfl⟩:=kids_mem.mp hb
  have:=h.pf _ hpm _ haB (List.prefix_append _ _)
  exact zaT _ _ this.symm
 generalize My.part m B j=C at mem hsr hnd
 generalize B.getD j []=p at mem hpm
 refine⟨h.m2,h.m4,fun x hx=>?_,fun x hx=>?_,fun x hx y hy hxy=>?_,fun x hx=>?_,hsr,hnd⟩
 ·rcases (mem x).mp hx with⟨hx,_⟩|hx
  ·exact h.let_ x hx
  ·obtain⟨c,hc,rfl⟩:=kids_mem.mp hx
   exact(h.let_ _ hpm).app (LetOk.one hc)
 ·rcases (mem x).mp hx with⟨hx,_⟩|hx
  ·exact h.ne x hx
  ·obtain⟨c,hc,rfl⟩:=kids_mem.mp hx
   simp
 ·rcases (mem x).mp hx with⟨hx,nx⟩|hx <;>rcases(mem y).mp hy with⟨hy,ny⟩|hy
  ·exact h.pf x hx y hy hxy
  ·obtain⟨c,hc,rfl⟩:=kids_mem.mp hy
   rcases List.prefix_concat_iff.mp hxy with e|e
   ·exact e
   ·exact absurd (h.pf x hx p hpm e) nx
  ·obtain⟨c,hc,rfl⟩:=kids_mem.mp hx
   exact absurd (h.pf p hpm y hy ((List.prefix_append _ _).trans hxy)).symm ny
  ·obtain⟨c,hc,rfl⟩:=kids_mem.mp hx
   obtain⟨d,hd,rfl⟩:=kids_mem.mp hy
   exact hxy.eq_of_length (by simp)
 ·obtain ⟨q,hq,e⟩:=h.cv x hx
  by_cases hqp:q=p
  ·subst hqp
   exact cv_of h.m2 (fun z hz=>(mem z).mpr (.inr hz)) hx h.m4 e
  ·exact⟨q,(mem q).mpr (.inl ⟨hq,hqp⟩),e⟩
theorem Book.letters {m:Nat}(m2:2≤m)(m4:m≤4):Book m (kids m []):=by
 refine⟨m2,m4,fun x hx=>?_,fun x hx=>?_,fun x hx y hy hxy=>?_,fun x hx=>?_,?_,kids_nd m []⟩
 ·obtain⟨c,hc,rfl⟩:=kids_mem.mp hx
  exact LetOk.one hc
 ·obtain⟨c,hc,rfl⟩:=kids_mem.mp hx
  simp
 ·obtain⟨c,hc,rfl⟩:=kids_mem.mp hx
  obtain⟨d,hd,rfl⟩:=kids_mem.mp hy
  exact hxy.eq_of_length (by simp)
 ·exact cv_of m2 (fun z hz=>hz) hx m4 (.inl (List.nil_prefix))
 ·have:m=2∨m=3∨m=4:=by omega
  rcases this with rfl|rfl|rfl <;>decide
def Inner (B:List (List Nat))(x:List Nat):Prop:=∃p∈B,x <+: p∧x≠p
theorem foldl_addK (l:List (List Nat)):∀ks:List (List Nat),ks.Nodup→(l.foldl addK ks).Nodup∧∀x,x∈l.foldl addK ks↔x∈ks∨x∈l:=by
 induction l with
 | nil=>intro ks h;exact⟨h,fun x=>by simp⟩
 | cons k r ih =>
  intro ks h
  rw[List.foldl_cons]
  have h1:(addK ks k).Nodup∧∀x,x∈addK ks k↔x∈ks∨x=k:=by
   unfold addK
   split
   ·exact⟨h,fun x=>⟨.inl,fun z=>z.elim id fun e=>by rw[e];assumption⟩⟩
   ·rename_i hk
    refine⟨List.nodup_append.mpr ⟨h,by simp,?_⟩,fun x=>by simp⟩
    rintro a ha b hb rfl
    rw[List.mem_singleton.mp hb] at ha
    exact hk ha
  obtain⟨h2,h3⟩:=ih _ h1.1
  refine⟨h2,fun x=>?_⟩
  rw[h3,h1.2,List.mem_cons,or_assoc]
theorem begs_mem {p x:List Nat}:x∈begs p↔x <+: p∧x≠p:=by
 unfold begs
 rw[List.mem_map]
 constructor
 ·rintro⟨e,he,rfl⟩
  have he':=List.mem_range.mp he
  refine⟨List.take_prefix _ _,fun z=>?_⟩
  have:=congrArg List.length z
  rw[List.length_take] at this
  omega
 ·rintro⟨h,hn⟩
  refine⟨x.length,List.mem_range.mpr ?_,(List.prefix_iff_eq_take.mp h).symm⟩
  have h1:=h.length_le
  have:x.length≠p.length:=fun z=>hn (h.eq_of_length z)
  omega
theorem vX (B:List (List Nat)):(z8 B).Nodup:=(foldl_addK _ [] List.nodup_nil).1
theorem innerKeys_mem {B:List (List Nat)}{x:List Nat}:x∈z8 B↔Inner B x:=by
 unfold z8
 rw[(foldl_addK _ [] List.nodup_nil).2,List.mem_flatMap]
 simp only[List.not_mem_nil,false_or]
 exact⟨fun⟨p,hp,h⟩=>⟨p,hp,begs_mem.mp h⟩,fun⟨p,hp,h⟩=>⟨p,hp,begs_mem.mpr h⟩⟩
theorem zb9 {m:Nat}(m2:2≤m)(m4:m≤4){B:List (List Nat)}(hn:B.Nodup){j:Nat}(hj:j<B.length){x:List Nat}(h:Inner (part m B j) x):Inner B x∨x=B.getD j []:=by
 obtain⟨q,hq,hx,hne⟩:=h
 have hpm:B.getD j []∈B:=by rw[List.getD_eq_getElem?_getD,List.getElem?_eq_getElem hj];exact List.getElem_mem hj
 rcases(part_mem hn hj).mp hq with⟨hq,_⟩|hq
 ·exact .inl ⟨q,hq,hx,hne⟩
 ·obtain ⟨c,hc,rfl⟩:=kids_mem.mp hq
  rcases List.prefix_concat_iff.mp hx with e|e
  ·exact absurd e hne
  ·by_cases hp:x=B.getD j []
   ·exact .inr hp
   ·exact .inl ⟨_,hpm,e,hp⟩
theorem sortF_mem {ls:List (List Nat)}{x:List Nat}:x∈sortF ls↔x∈ls:=(xT ls).mem_iff
theorem part_len {m:Nat}(m4:m≤4){B:List (List Nat)}{j:Nat}(hj:j<B.length):(part m B j).length=B.length - 1+m:=by
 unfold part
 rw[(xT _).length_eq,List.length_append,zcH m m4,List.length_eraseIdx,if_pos hj]
def Free (B:List (List Nat))(x:List Nat):Prop:=∀y,y <+: x→y≠[]→y∉B
theorem zdc {B:List (List Nat)}(acc:List (List Nat)):∀(r l:List Nat),Free B (l++r)→r.foldl (zQ B) (acc,l)=(acc,l++r)
 | [],l,_=>by simp
 | c::r,l,h=>by
  have hn:l++[c]∉B:=h _ ⟨r,by simp⟩ (by simp)
  rw[List.foldl_cons]
  have e:zQ B (acc,l) c=(acc,l++[c]):=by unfold zQ;rw[if_neg hn]
  rw[e,zdc acc r (l++[c]) (by simpa using h)]
  simp
theorem zcv {B:List (List Nat)}(acc:List (List Nat)):∀(r:List Nat) (a:List (List Nat)) (l:List Nat),r.foldl (zQ B) (acc++a,l)=(acc++(r.foldl (zQ B) (a,l)).1,(r.foldl (zQ B) (a,l)).2)
 | [],a,l=>rfl
 | c::r,a,l=>by
  rw[List.foldl_cons,List.foldl_cons]
  by_cases h:l++[c]∈B
  ·have e1:zQ B (acc++a,l) c=(acc++(a++[l++[c]]),[]):=by unfold zQ;rw[if_pos h,List.append_assoc]
   have e2:zQ B (a,l) c=(a++[l++[c]],[]):=by unfold zQ;rw[if_pos h]
   rw[e1,e2]
   exact zcv acc r _ _
  ·have e1:zQ B (acc++a,l) c=(acc++a,l++[c]):=by unfold zQ;rw[if_neg h]
   have e2:zQ B (a,l) c=(a,l++[c]):=by unfold zQ;rw[if_neg h]
   rw[e1,e2]
   exact zcv acc r _ _
theorem zed (B:List (List Nat)):∀(r:List Nat) (s:List (List Nat)×List Nat),Free B s.2→(∀p∈s.1,p∈B)→Free B (r.foldl (zQ B) s).2∧(∀p∈(r.foldl (zQ B) s).1,p∈B)∧(r.foldl (zQ B) s).1.flatten++(r.foldl (zQ B) s).2=s.1.flatten++s.2++r
 | [],s,h1,h2=>⟨h1,h2,by simp⟩
 | c :: r,s,h1,h2=>by
  rw[List.foldl_cons]
  by_cases h:s.2++[c]∈B
  ·have e:zQ B s c=(s.1++[s.2++[c]],[]):=by unfold zQ;rw[if_pos h]
   rw[e]
   obtain ⟨a1,a2,a3⟩:=zed B r (s.1++[s.2++[c]],[]) (fun y hy hn=>absurd (List.prefix_nil.mp hy) hn) (fun p hp=>by
    rcases List.mem_append.mp hp with hp|hp
    ·exact h2 p hp
    ·rw[List.mem_singleton.mp hp];exact h)
   exact⟨a1,a2,by rw[a3];simp⟩
  ·have e:zQ B s c=(s.1,s.2++[c]):=by unfold zQ;rw[if_neg h]
   rw[e]
   obtain ⟨a1,a2,a3⟩:=zed B r (s.1,s.2++[c]) (fun y hy hn=>by
    rcases List.prefix_concat_iff.mp hy with e|e
    ·rw[e];exact h
    ·exact h1 y e hn) h2
   exact⟨a1,a2,by rw[a3];simp⟩
theorem free_nil (B:List (List Nat)):Free B []:=fun y hy hn=>absurd (List.prefix_nil.mp hy) hn
theorem jN (B:List (List Nat))(l:List Nat):Free B (yd B l).2∧(∀p∈(yd B l).1,p∈B)∧(yd B l).1.flatten++(yd B l).2=l:=by
 have:=zed B l ([],[]) (free_nil B) (by simp)
 simpa [yd] using this
theorem cut_free {B:List (List Nat)}{x:List Nat}(h:Free B x):yd B x=([],x):=by
 have:=zdc (B:=B) [] x [] (by simpa using h)
 simpa [yd] using this
theorem cut_app (B:List (List Nat))(l r:List Nat):yd B (l++r)=((yd B l).1++(yd B ((yd B l).2++r)).1,(yd B ((yd B l).2++r)).2):=by
 have h1:yd B ((yd B l).2++r)=r.foldl (zQ B) ([],(yd B l).2):=by
  have:=cut_free (jN B l).1
  unfold yd at this ⊢
  rw[List.foldl_append,this]
 rw[h1]
 have h2:yd B (l++r)=r.foldl (zQ B) (yd B l):=by unfold yd;rw[List.foldl_append]
 rw[h2]
 have:=zcv (B:=B) (yd B l).1 r [] (yd B l).2
 rw[List.append_nil] at this
 exact this
theorem Book.free {m:Nat}{B:List (List Nat)}(h:Book m B){x:List Nat}(hx:Inner B x):Free B x:=fun y hy hn hyB=>by
 obtain⟨p,hp,hxp,hne⟩:=hx
 have e:=h.pf y hyB p hp (hy.trans hxp)
 subst e
 exact hne (List.IsPrefix.eq_of_length hxp (Nat.le_antisymm hxp.length_le hy.length_le))
theorem Book.left {m:Nat}{B:List (List Nat)}(h:Book m B){x:List Nat}(hl:LetOk m x)(hf:Free B x):Inner B x:=by
 obtain⟨p,hp,e⟩:=h.cv x hl
 rcases e with e|e
 ·exact absurd hp (hf p e (h.ne p hp))
 ·refine⟨p,hp,e,fun z=>?_⟩
  subst z
  exact hf x (List.prefix_refl _) (h.ne x hp) hp
inductive Gr (m:Nat):Nat→List (List Nat)→Prop
 | z:Gr m 0 (kids m [])
 | s {t:Nat}{B:List (List Nat)}{j:Nat}:Gr m t B→j<B.length→Gr m (t+1) (part m B j)
theorem Gr.book {m:Nat}(m2:2≤m)(m4:m≤4){t:Nat}{B:List (List Nat)}(h:Gr m t B):Book m B:=by
 induction h with
 | z=>exact Book.letters m2 m4
 | s _ hj ih=>exact ih.part hj
theorem Gr.len {m:Nat}(m2:2≤m)(m4:m≤4){t:Nat}{B:List (List Nat)}(h:Gr m t B):B.length=m+t*(m - 1):=by
 induction h with
 | z=>rw[zcH m m4];omega
 | s _ hj ih =>
  rename_i B' t' _
  rw[part_len m4 hj,ih,Nat.add_mul]
  generalize _*(m - 1)=z
  omega
theorem Gr.short {m:Nat}(m2:2≤m)(m4:m≤4){t:Nat}{B:List (List Nat)}(h:Gr m t B):∀p∈B,p.length≤t+1:=by
 induction h with
 | z=>intro p hp;obtain⟨c,_,rfl⟩:=kids_mem.mp hp;simp
 | s g hj ih =>
  rename_i t' B' j
  intro p hp
  have hpm:B'.getD j []∈B':=by rw[List.getD_eq_getElem?_getD,List.getElem?_eq_getElem hj];exact List.getElem_mem hj
  rcases(part_mem (g.book m2 m4).nd hj).mp hp with⟨hp,_⟩|hp
  ·have:=ih p hp;omega
  ·obtain⟨c,_,rfl⟩:=kids_mem.mp hp
   have:=ih _ hpm
   rw[List.length_append]
   show _+1≤_
   omega
theorem Gr.inner {m:Nat}(m2:2≤m)(m4:m≤4){t:Nat}{B:List (List Nat)}(h:Gr m t B):∃L:List (List Nat),L.length=t+1∧∀x,Inner B x→x∈L:=by
 induction h with
 | z =>
  refine⟨[[]],rfl,fun x hq37=>?_⟩
  obtain⟨p,hp,hx,hn⟩:=hq37
  obtain⟨c,_,rfl⟩:=kids_mem.mp hp
  rcases List.prefix_concat_iff.mp hx with e|e
  ·exact absurd e hn
  ·rw[List.prefix_nil.mp e];simp
 | s g hj ih =>
  rename_i t' B' j
  obtain⟨L,h1,h2⟩:=ih
  refine⟨L++[B'.getD j []],by simp[h1],fun x hx=>?_⟩
  rcases zb9 m2 m4 (g.book m2 m4).nd hj hx with h|h
  ·exact List.mem_append_left _ (h2 x h)
  ·rw[h];simp
theorem Gr.keys {m:Nat}(m2:2≤m)(m4:m≤4){t:Nat}{B:List (List Nat)}(h:Gr m t B):(z8 B).length≤t+1:=by
 obtain⟨L,h1,h2⟩:=h.inner m2 m4
 rw[← h1]
 exact(vX B).length_le_of_subset fun x hx=>h2 x (innerKeys_mem.mp hx)
end My
namespace L2
open PySem PySem.Spec PyProof.Rows
section
variable {prog:Program}{w:World}{A:Around}{E:Value→Shared→Prop}{s:Shared}
theorem zd9 {l:Addr}{vs:List Value}{Q:List Value→Shared→Prop}(hl:IsTup s.heap l vs.toArray)
  (h:Q vs {s with heap:=(s.heap.push (seqObj "list" #[] 0)).update s.heap.objs.size (Obj.mapSeq (· ++ vs.toArray))}) (hsz:vs.length≤sizeLine) :
  wpAny (model prog w) A (collect (.ref l)) Q E s:=by
 obtain⟨o,ho,hc,n,hd⟩:=id hl
 unfold collect
 refine wpAny_bind (wpAny_runValue (codeAny_builtin entry_proto_collect' ?_))
 show wpAny _ _ (do again (.builtin "list.__iadd__" ⟨[← newList [],.ref l],[]⟩)) _ _ s
 refine wpAny_bind (wpAny_newList (wpAny_pure ⟨Code.quiet_builtin _ (by decide +kernel),codeAny_builtin entry_list_iadd' ?_⟩))
 show wpAny _ _ (Builtin.List.listExtendWith (.ref s.heap.objs.size) (.ref l) (.ref s.heap.objs.size)) _ _ {s with heap:=s.heap.push (seqObj "list" #[] 0)}
 unfold Builtin.List.listExtendWith
 have ho':(s.heap.push (seqObj "list" #[] 0)).get? l=some o:=Heap.get?_push_of_some _ ho
 refine wpAny_bind (wpAny_typeOf (T := "tuple") ⟨o,ho',hc⟩ ?_)
 have ht:(Value.type "tuple" == Value.type "tuple")=true:=by rfl
 rw[if_pos (by rw[ht];simp)]
 refine wpAny_bind (listItems_at ho' hd ?_)
 refine wpAny_bind (listItems_at (xs:=#[]) (n:=0) (Heap.get?_push_size _ rfl) rfl ?_)
 rw[if_neg (by simp)]
 refine wpAny_bind (listUpdate_at (xs:=#[]) (n:=0) (Heap.get?_push_size _ rfl) rfl ?_ (Nat.zero_le _) (by show(#[]++vs.toArray).size≤sizeLine+1;simp only[Array.size_append,List.size_toArray,List.length_nil];omega))
 refine wpAny_pure ?_
 show wpAny (model prog w) A (do
   let o ← load s.heap.objs.size
   match o.data with
   | .seq xs _=>pure xs.toList
   | _=>unsupported "internal:collect") Q E {s with heap:=(s.heap.push (seqObj "list" #[] 0)).update s.heap.objs.size (Obj.mapSeq (· ++ vs.toArray))}
 refine wpAny_bind (wpAny_load (get?_update_seq (Heap.get?_push_size _ rfl) _) ?_)
 show wpAny _ _ (pure ((#[]:Array Value)++vs.toArray).toList) Q E _
 rw[show((#[]:Array Value)++vs.toArray).toList=vs by simp]
 exact wpAny_pure h
theorem sortedKT {κ:KeyKind}(hO:κ.OneLt){l:Addr}{vs:List Value}{Q:Value→Shared→Prop}(hl:IsTup s.heap l vs.toArray)(h0:KeysOf κ (pairsOf vs))(hkk:∀v₁ v₂ rest,vs=v₁::v₂::rest→keyKind' (v₁::v₂::rest).toArray=pure oneType')(h64:vs.length<64)
  (h:∀st':SortSt,(arrOf st').Perm (pairsOf vs)→SortedToK κ (arrOf st') (pairsOf vs).size→Q (.ref (s.heap.objs.size+1)) {s with heap:=sortedAll s.heap vs ((arrOf st').map (·.2))}) :
  wpAny (model prog w) A (call (.builtin "sorted") [.ref l]) Q E s:=by
 have hz:vs.length≤sizeLine:=by rw[sizeLine_eq];omega
 refine Calls.call_function_entry kind_sorted plain_sorted entry_sorted (args_sorted1 _) ?_
 unfold Builtin.«sorted»
 refine wpAny_bind (m:=checkCount "sorted" 1 1 _) (wpAny_pure ?_)
 refine wpAny_bind (zd9 hl ?_ hz)
 refine wpAny_bind (wpAny_newList ?_)
 have hsz:((s.heap.push (seqObj "list" #[] 0)).update s.heap.objs.size (Obj.mapSeq (· ++ vs.toArray))).objs.size=s.heap.objs.size+1:=by
  rw[Heap.size_update,size_push']
 have hoL:(((s.heap.push (seqObj "list" #[] 0)).update s.heap.objs.size (Obj.mapSeq (· ++ vs.toArray))).push (seqObj "list" vs.toArray 0)).get? (s.heap.objs.size+1)=some (seqObj "list" vs.toArray 0):=by
  rw[← hsz];exact Heap.get?_push_size _ rfl
 show wpAny _ _ _ _ _ {s with heap:=((s.heap.push (seqObj "list" #[] 0)).update s.heap.objs.size (Obj.mapSeq (· ++ vs.toArray))).push (seqObj "list" vs.toArray 0)}
 rw[hsz]
 refine wpAny_bind (wpAny_holding (wpAny_call_entry slot_list_sort ⟨_,hoL,rfl⟩ entry_list_sort (list_sort_treeK hO hoL h0 hkk h64 fun st' a1 a2=>⟨_,rfl,?_⟩) (args_list_sort _)))
 exact wpAny_pure ⟨_,rfl,h st' a1 a2⟩
end
section
variable {X:Cx}
theorem zdd:jj X (.builtin "sorted") (fun xs H Q=>∃a ls,xs=[.ref a]∧SqT X.K H a (vT ls)∧ls.length<64∧∀p ms,H p=none→ms.Perm ls→Srt ms→Q (.ref p) (upd H p (.lst (vT ms)))):=by
 intro pins s σ H xs us Q I r h
 obtain⟨a,ls,rfl,ha,h64,q⟩:=h
 obtain⟨u,rfl,ru⟩:=vals1 r
 cases ru
 obtain⟨its,rv,pl,hz⟩:=I.tuple ha
 rw[vT_T] at rv
 have hl:=rv.length
 simp only[List.length_map] at hl
 have hS:=jK rv
 refine sortedKT strKind_oneLt pl hS.keysOf (fun v₁ v₂ rest e=>keyKind_strs (by rw[← e];exact hS)) (by omega) fun st' hp hs=>?_
 obtain⟨ss',h1,h2,h3⟩:=sorted_out_str hS hp hs
 have hS:=srt_of h3
 have hP:(ss'.map fun x=>x.cps.toList).Perm ls:=by
  have:=h2.map fun x:Str=>x.cps.toList
  rw[List.map_map] at this
  have e:ls.map ((fun x:Str=>x.cps.toList)∘T)=ls:=by
   have:((fun x:Str=>x.cps.toList)∘T)=id:=funext fun l=>zbD l
   rw[this,List.map_id]
  rw[e] at this
  exact this
 obtain⟨c,hat⟩:=sortedAll_at s.heap its ((arrOf st').map (·.2))
 have hlen:ss'.length=ls.length:=by have:=h2.length_eq;simpa using this
 refine⟨.ref (s.heap.objs.size+1),_,I.laid (t':=s.toks) (o:=.lst (vT (ss'.map fun x=>x.cps.toList))) (fun b o e=>sortedAll_old e) (Nat.le_succ _) ?_,rfl,q _ _ (I.hok.fresh (Nat.le_succ _)) hP hS⟩
 refine⟨?_,((arrOf st').map (·.2)).toList,c,?_,by rw[Array.toArray_toList];exact hat⟩
 ·rw[← vT_str,List.length_map,sizeLine_eq];omega
 ·rw[← vT_str];exact zbg h1
end
end L2
namespace My
theorem inner_iff {ps:List (List Nat)}{x:List Nat}:isInner ps x=true↔Inner ps x:=by
 unfold isInner Inner
 rw[List.any_eq_true]
 constructor
 ·rintro⟨p,hp,e⟩
  rw[Bool.and_eq_true,List.isPrefixOf_iff_prefix,Bool.not_eq_true',decide_eq_false_iff_not] at e
  exact⟨p,hp,e.1,fun z=>e.2 z.symm⟩
 ·rintro⟨p,hp,e,hn⟩
  refine⟨p,hp,?_⟩
  rw[Bool.and_eq_true,List.isPrefixOf_iff_prefix,Bool.not_eq_true',decide_eq_false_iff_not]
  exact⟨e,fun z=>hn z.symm⟩
theorem apart_iff {ps:List (List Nat)}{x:List Nat}:yF ps x=true↔∀p∈ps,¬x <+: p∧¬p <+: x:=by
 unfold yF
 rw[Bool.not_eq_true',List.any_eq_false]
 constructor
 ·intro h p hp
  have:=h p hp
  rw[Bool.or_eq_true,List.isPrefixOf_iff_prefix,List.isPrefixOf_iff_prefix] at this
  exact⟨fun z=>this (.inl z),fun z=>this (.inr z)⟩
 ·intro h p hp
  rw[Bool.or_eq_true,List.isPrefixOf_iff_prefix,List.isPrefixOf_iff_prefix]
  exact fun z=>z.elim (h p hp).1 (h p hp).2
theorem goneOn_in {m:Nat}{xs:List (List Nat)}{x:List Nat}{c:Nat}(hx:x∈xs)(hc:c∈abcd.take m):x++[c]∈zP m xs:=by
 unfold zP
 exact List.mem_flatMap.mpr ⟨x,hx,List.mem_map.mpr ⟨c,hc,rfl⟩⟩
theorem Book.nilInner {m:Nat}{B:List (List Nat)}(h:Book m B):Inner B []:=by
 obtain⟨p,hp,_⟩:=h.cv [] (fun c hc=>by cases hc)
 exact⟨p,hp,List.nil_prefix,fun z=>h.ne p hp z.symm⟩
theorem Book.innerLet {m:Nat}{B:List (List Nat)}(h:Book m B){x:List Nat}(hx:Inner B x):LetOk m x:=by
 obtain⟨p,hp,hxp,_⟩:=hx
 exact(h.let_ p hp).pre hxp
theorem Book.step {m:Nat}{B:List (List Nat)}(h:Book m B){x:List Nat}(hx:Inner B x){c:Nat}(hc:c∈abcd.take m):(Inner B (x++[c])∧x++[c]∉B)∨(¬Inner B (x++[c])∧x++[c]∈B):=by
 have hnot:Inner B (x++[c])→x++[c]∉B:=fun hi=>h.free hi _ (List.prefix_refl _) (by simp)
 by_cases hB:x++[c]∈B
 ·exact .inr ⟨fun hi=>hnot hi hB,hB⟩
 ·refine .inl ⟨?_,hB⟩
  obtain⟨q,hq,e⟩:=h.cv (x++[c]) ((h.innerLet hx).app (LetOk.one hc))
  rcases e with e|e
  ·rcases List.prefix_concat_iff.mp e with e|e
   ·exact absurd (e▸hq) hB
   ·exact absurd hq (h.free hx q e (h.ne q hq))
  ·exact⟨q,hq,e,fun z=>hB (z▸hq)⟩
theorem zbv {m:Nat}(m2:2≤m)(m4:m≤4){B:List (List Nat)}(hb:Book m B){j:Nat}(hj:j<B.length){x:List Nat}:Inner (part m B j) x↔Inner B x∨x=B.getD j []:=by
 have hpm:B.getD j []∈B:=by rw[List.getD_eq_getElem?_getD,List.getElem?_eq_getElem hj];exact List.getElem_mem hj
 have h97:97∈abcd.take m:=vQ m4 (by omega)
 have hk:B.getD j []++[97]∈part m B j:=(part_mem hb.nd hj).mpr (.inr (kids_mem.mpr ⟨97,h97,rfl⟩))
 refine⟨zb9 m2 m4 hb.nd hj,?_⟩
 rintro(⟨p,hp,hx,hne⟩|rfl)
 ·by_cases e:p=B.getD j []
  ·refine ⟨_,hk,?_,?_⟩
   ·rw[← e];exact hx.trans (List.prefix_append _ _)
   ·intro z
    have h1:=hx.length_le
    rw[z,← e] at h1
    simp at h1
    omega
  ·exact⟨p,(part_mem hb.nd hj).mpr (.inl ⟨hp,e⟩),hx,hne⟩
 ·exact⟨_,hk,List.prefix_append _ _,fun z=>zaT _ _ z.symm⟩
theorem Gr.keysEq {m:Nat}(m2:2≤m)(m4:m≤4){t:Nat}{B:List (List Nat)}(h:Gr m t B):(z8 B).length=t+1:=by
 have key:∃L:List (List Nat),L.Nodup∧L.length=t+1∧∀x,Inner B x↔x∈L:=by
  induction h with
  | z =>
   refine⟨[[]],by simp,rfl,fun x=>⟨fun⟨p,hp,hx,hn⟩=>?_,fun hx=>?_⟩⟩
   ·obtain⟨c,_,rfl⟩:=kids_mem.mp hp
    rcases List.prefix_concat_iff.mp hx with e|e
    ·exact absurd e hn
    ·rw[List.prefix_nil.mp e];simp
   ·rw[List.mem_singleton.mp hx]
    exact(Book.letters m2 m4).nilInner
  | s g hj ih =>
   rename_i t' B' j
   obtain⟨L,h0,h1,h2⟩:=ih
   have hb:=g.book m2 m4
   have hpm:B'.getD j []∈B':=by rw[List.getD_eq_getElem?_getD,List.getElem?_eq_getElem hj];exact List.getElem_mem hj
   refine⟨L++[B'.getD j []],List.nodup_append.mpr ⟨h0,by simp,?_⟩,by simp[h1],fun x=>?_⟩
   ·rintro a ha b hb' rfl
    rw[List.mem_singleton.mp hb'] at ha
    exact hb.free ((h2 _).mpr ha) _ (List.prefix_refl _) (hb.ne _ hpm) hpm
   ·rw[zbv m2 m4 hb hj,h2,List.mem_append,List.mem_singleton]
 obtain⟨L,h0,h1,h2⟩:=key
 rw[← h1]
 refine Nat.le_antisymm ((vX B).length_le_of_subset fun x hx=>(h2 x).mp (innerKeys_mem.mp hx)) (h0.length_le_of_subset fun x hx=>innerKeys_mem.mpr ((h2 x).mpr hx))
theorem erase_mem {B:List (List Nat)}(hn:B.Nodup){j:Nat}{p:List Nat}(hj:B[j]? = some p){x:List Nat}:x∈B.eraseIdx j↔x∈B∧x≠p:=by
 obtain⟨hl,rfl⟩:=List.getElem?_eq_some_iff.mp hj
 rw[List.mem_eraseIdx_iff_getElem]
 constructor
 ·rintro⟨i,hi,hij,rfl⟩
  exact⟨List.getElem_mem hi,fun z=>hij ((List.getElem_inj hn).mp z)⟩
 ·rintro⟨hx,hne⟩
  obtain⟨i,hi,rfl⟩:=List.mem_iff_getElem.mp hx
  exact⟨i,hi,fun z=>hne (by subst z;rfl),rfl⟩
structure Less (m:Nat)(B:List (List Nat))(p:List Nat)(L:List (List Nat)):Prop where
 bk:Book m B
 hp:p∈B
 mem:∀x,x∈L↔x∈B∧x≠p
 srt:L.Pairwise (· < ·)
theorem Less.of {m:Nat}{B:List (List Nat)}(h:Book m B){j:Nat}{p:List Nat}(hj:B[j]? = some p):Less m B p (B.eraseIdx j) :=
 ⟨h,List.mem_of_getElem? hj,fun x=>erase_mem h.nd hj,(strict h.srt h.nd).sublist (List.eraseIdx_sublist B j)⟩
theorem Less.apart {m:Nat}{B:List (List Nat)}{p:List Nat}{L:List (List Nat)}(h:Less m B p L){x:List Nat}(hx:p <+: x):yF L x=true:=by
 refine apart_iff.mpr fun q hq=>⟨fun e=>?_,fun e=>?_⟩
 ·have:=(h.mem q).mp hq
  exact this.2 (h.bk.pf p h.hp q this.1 (hx.trans e)).symm
 ·have:=(h.mem q).mp hq
  rcases List.prefix_or_prefix_of_prefix e hx with z|z
  ·exact this.2 (h.bk.pf q this.1 p h.hp z)
  ·exact this.2 (h.bk.pf p h.hp q this.1 z).symm
theorem Less.fta {m:Nat}{B:List (List Nat)}{p:List Nat}{L:List (List Nat)}(h:Less m B p L):∀(n j:Nat) (xs:List (List Nat)),(∀x∈xs,LetOk m x∧Inner L x)→j<p.length→p.length≤j+n→p.take j∈xs→∃x,fta m L n xs=some x∧x <+: p∧yF L x=true
 | 0,j,xs,_,h1,h2,_=>by omega
 | n + 1,j,xs,hx,h1,h2,hj=>by
  have hl:=h.bk.let_ p h.hp
  have hg:∀y∈zP m xs,yF L y=true→y <+: p:=fun y hy ha=>by
   obtain⟨x,hxx,c,hc,rfl⟩:=j6 hy
   have hlet:=(hx x hxx).1.app (LetOk.one hc)
   obtain⟨q,hq,e⟩:=h.bk.cv _ hlet
   by_cases hqp:q=p
   ·subst hqp
    rcases e with e|e
    ·rcases List.prefix_concat_iff.mp e with e|e
     ·rw[e];exact List.prefix_refl _
     ·obtain⟨r,hr,hxr,_⟩:=(hx x hxx).2
      have hr':=(h.mem r).mp hr
      exact absurd (h.bk.pf q hq r hr'.1 (e.trans hxr)).symm hr'.2
    ·exact e
   ·have:=apart_iff.mp ha q ((h.mem q).mpr ⟨hq,hqp⟩)
    exact(e.elim this.2 this.1).elim
  unfold My.fta
  rw[if_neg (fun e=>by rw[e] at hj;cases hj)]
  cases ef:(zP m xs).find? (yF L) with
  | some x=>exact⟨x,rfl,hg x (List.mem_of_find?_eq_some ef) (List.find?_some ef),List.find?_some ef⟩
  | none =>
   have hno:=List.find?_eq_none.mp ef
   have hc:p[j]∈abcd.take m:=vQ h.bk.m4 (hl _ (List.getElem_mem h1))
   have hmem:p.take (j+1)∈zP m xs:=by
    rw[← List.take_append_getElem h1]
    exact goneOn_in hj hc
   have hna:=hno _ hmem
   have hj1:j+1<p.length:=by
    refine Classical.byContradiction fun hge=>hna ?_
    rw[List.take_of_length_le (by omega)]
    exact h.apart (List.prefix_refl _)
   refine h.fta n (j+1) _ (fun x hxf=>?_) hj1 (by omega) (List.mem_filter.mpr ⟨hmem,?_⟩)
   ·obtain⟨h3,h4⟩:=List.mem_filter.mp hxf
    exact⟨zb1 (fun x hx'=>(hx x hx').1) x h3,inner_iff.mp h4⟩
   ·refine inner_iff.mpr ?_
    have:∃q∈L,p.take (j+1) <+: q∨q <+: p.take (j+1):=by
     refine Classical.byContradiction fun hne=>hna (apart_iff.mpr fun q hq=>⟨fun z=>hne ⟨q,hq,.inl z⟩,fun z=>hne ⟨q,hq,.inr z⟩⟩)
    obtain⟨q,hq,e⟩:=this
    have hq':=(h.mem q).mp hq
    have key:¬q <+: p.take (j+1):=fun z=>hq'.2 (h.bk.pf q hq'.1 p h.hp (z.trans (List.take_prefix _ _)))
    exact⟨q,hq,e.resolve_right key,fun z=>key (z▸List.prefix_refl _)⟩
theorem Less.text {m:Nat}{B:List (List Nat)}{p:List Nat}{L:List (List Nat)}(h:Less m B p L)(hne:L≠[])(h8:p.length≤9):∃x,wW m L=some x∧x <+: p∧yF L x=true:=by
 refine h.fta 10 0 [[]] (fun x hx=>?_) (List.length_pos_iff.mpr (h.bk.ne p h.hp)) (by omega) (by simp)
 rw[List.mem_singleton.mp hx]
 refine⟨fun c hc=>by (cases hc),?_⟩
 obtain⟨q,hq⟩:=List.exists_mem_of_ne_nil L hne
 exact⟨q,hq,List.nil_prefix,fun z=>h.bk.ne q ((h.mem q).mp hq).1 z.symm⟩
structure More (m:Nat)(B:List (List Nat))(p:List Nat)(L:List (List Nat)):Prop where
 bk:Book m B
 hp:p∈B
 mem:∀x,x∈L↔x∈B∨x=p++[98]
 srt:L.Pairwise (· < ·)
 len:L.length=B.length+1
theorem More.of {m:Nat}{B:List (List Nat)}(h:Book m B){p:List Nat}(hp:p∈B):More m B p (sortF (B++[p++[98]])):=by
 have hn:p++[98]∉B:=fun z=>zaT _ _ (h.pf p hp _ z (List.prefix_append _ _)).symm
 refine⟨h,hp,fun x=>by rw[sortF_mem,List.mem_append,List.mem_singleton],strict (jC _) ?_,by rw[(xT _).length_eq,List.length_append];rfl⟩
 refine(xT _).nodup_iff.mpr (List.nodup_append.mpr ⟨h.nd,by simp,?_⟩)
 rintro a ha b hb rfl
 rw[List.mem_singleton.mp hb] at ha
 exact hn ha
end My
namespace L2
open PySem PySem.Spec PyProof.Rows
def zep (P:Program)(w:World)(outer:List Env)(H:Hp)(s:Shared)(E:XK)(e:Value)(s':Shared):Prop :=
 ∃ (a C:Addr) (a0:Value) (H':Hp) (B:Heap),e=.ref a∧s'.os=s.os∧AllBare s'.gens ∧
  (∀b o,s.heap.get? b=some o→b∉frs outer→∃o',B.get? b=some o'∧(H b=none→o'=o)) ∧
  (∀b o,s.heap.get? b=some o→b∈frs outer→∃sl,s'.heap.get? b=some {o with slots:=sl}) ∧
  (∀b o,s.heap.get? b=some o→H b=none→H' b=none) ∧
  (∀b xs,H b=some (.tup xs)→H' b=some (.tup xs))∧(∀b o u,H b=some (.frz o u)→H' b=some (.frz o u))∧(∀b ps,H b=some (.tbl ps)→∃more,H' b=some (.tbl (ps++more))) ∧
  HOk P w H' B∧Heap.FlyingW B outer a (.ref C) a0 s'.heap∧E (.ref C) none H'
abbrev CX1 (P:Program)(w:World):CXT:=zep P w
theorem frs_cons {env:Env}{outer:List Env}{L:Addr}(hf:env.frame=some L):frs (env::outer)=L::frs outer:=by
 unfold frs
 rw[List.filterMap_cons,hf]
theorem hok_hide {P:Program}{w:World}{H:Hp}{h:Heap}{l:List Addr}(ok:HOk P w H h)(hl:∀b∈l,H b=none):HOk P w H (PySem.W.hideAll h l):=fun b o e =>
 (ok b o e).stay (fun c u hc q=>PySem.W.hideAll_get l q fun z=>by
  rcases hc with rfl|hc
  ·rw[hl _ z] at e;cases e
  ·rw[hl _ z] at hc;cases hc) (fun _ q=>q) fun _ _ q=>q
section
variable {X:Cx}{pins:List (Addr×Obj)}{σ:St}{H:Hp}{s:Shared}{M:Model}{F:Value→Shared→Prop}{E:XK}
theorem Inv.fr0 (I:Inv X pins σ H s){b:Addr}(hb:b∈X.fs):X.H₀ b=none∧b∉X.ex:=⟨I.ok.frf b hb,fun z=>I.ok.exfs b z hb⟩
theorem fly_raise (I:Inv X pins σ H s)(hst:X.stack=X.env::X.outer)(hfr:X.env.frame=some X.env.locals)(hex:X.ex=[]){e C:Addr}{args:List Value}{h':Heap}
  (hx:Heap.MadeExcOf s.heap h' e (.ref C) args) (hE:E (.ref C) none H) :
  wpAny M X.A (leaving X.env (.ref e)) (fun _ s''=>zep X.prog X.w X.outer X.H₀ X.s₀ E (.ref e) s'') F {s with heap:=h'}:=by
 have hin:∀env∈X.stack,∀b,env.frame=some b→b∈frs X.stack:=fun env he b hb=>List.mem_filterMap.mpr ⟨env,he,hb⟩
 have hstk:frs X.stack=X.env.locals::frs X.outer:=by rw[hst];exact frs_cons hfr
 have nex:∀b:Addr,b∉X.ex:=fun b z=>by rw[hex] at z;cases z
 refine wpAny_leaves_madeW (base:=PySem.W.hideAll s.heap (frs X.stack)) (h:=s.heap) (outer:=X.outer) (I.ok.frames.trans (by rw[hst])) hfr (fun b o q=>PySem.W.of_hideAll _ q) (by rw[← hst];exact PySem.W.funFrames_hide I.stack hin) hx fun h2 t x1 x2 x3 x4=>?_
 refine⟨e,C,.ref t,H,PySem.W.hideAll s.heap (frs X.stack),rfl,I.os,I.bare,fun b o q hb=>?_,fun b o q hb=>?_,fun b o q n=>I.base.free b o q n (nex b),I.base.tups,I.base.frzs,I.base.tbls,hok_hide I.hok I.stkFree,x1,hE⟩
 ·obtain ⟨o1,e1⟩:=I.base.there b o q (nex b)
  refine⟨o1,PySem.W.hideAll_get _ e1 fun z=>?_,fun n=>?_⟩
  ·rw[hstk] at z
   rcases List.mem_cons.mp z with z|z
   ·exact absurd (Heap.lt_size q) (Nat.not_lt.mpr (z▸I.ok.above))
   ·exact hb z
  ·have:=I.base.keep b o q n hb (nex b)
   rw[e1] at this
   exact Option.some.inj this
 ·obtain ⟨sl,e1⟩:=I.base.slot b o q (I.fr0 hb).1 hb (nex b)
  have hb2:b∈X.stack.filterMap (·.frame):=by
   show b∈frs X.stack
   rw[hstk]
   exact List.mem_cons_of_mem _ hb
  obtain⟨_,o2,e2,nf⟩:=I.stack.mem hb2
  rw[e1] at e2
  obtain rfl:=Option.some.inj e2
  obtain⟨sl2,e3⟩:=x4 b _ (hx.keeps b _ e1) nf
  exact⟨sl2,e3⟩
theorem fly_pass (I:Inv X pins σ H s)(hst:X.stack=X.env::X.outer)(hfr:X.env.frame=some X.env.locals)(hex:X.ex=[]){e:Value}{s':Shared}(hf:zep X.prog X.w X.stack H s E e s') :
  wpAny M X.A (leaving X.env e) (fun _ s''=>zep X.prog X.w X.outer X.H₀ X.s₀ E e s'') F s':=by
 have hstk:frs X.stack=X.env.locals::frs X.outer:=by rw[hst];exact frs_cons hfr
 have nex:∀b:Addr,b∉X.ex:=fun b z=>by rw[hex] at z;cases z
 obtain⟨a,C,a0,H',B,rfl,hos,hbare,h1,h2,h3,h4,h5,h6,hok,fly,hE⟩:=hf
 have fly':Heap.FlyingW B (X.env::X.outer) a (.ref C) a0 s'.heap:=by rw[← hst];exact fly
 refine wpAny_leaves_onW (I.ok.frames.trans (by rw[hst])) hfr fly' fun h2' x1 x2=>?_
 refine⟨a,C,a0,H',B,rfl,hos.trans I.os,hbare,fun b o q hb=>?_,fun b o q hb=>?_,fun b o q n=>?_,fun b xs q=>h4 b xs (I.base.tups b xs q),fun b o u q=>h5 b o u (I.base.frzs b o u q),fun b ps q=>?_,hok,x1,hE⟩
 ·obtain ⟨o1,e1⟩:=I.base.there b o q (nex b)
  have hbs:b∉frs X.stack:=fun z=>by
   rw[hstk] at z
   rcases List.mem_cons.mp z with z|z
   ·exact absurd (Heap.lt_size q) (Nat.not_lt.mpr (z▸I.ok.above))
   ·exact hb z
  obtain⟨o2,e2,k2⟩:=h1 b o1 e1 hbs
  refine⟨o2,e2,fun n=>?_⟩
  have e3:=I.base.keep b o q n hb (nex b)
  rw[e1] at e3
  rw[k2 (I.base.free b o q n (nex b))]
  exact Option.some.inj e3
 ·obtain⟨sl,e1⟩:=I.base.slot b o q (I.fr0 hb).1 hb (nex b)
  have hb2:b∈frs X.stack:=by rw[hstk];exact List.mem_cons_of_mem _ hb
  obtain⟨sl2,e2⟩:=h2 b _ e1 hb2
  obtain⟨_,o3,e3,nf⟩:=fly.2.2.1.mem hb2
  rw[e2] at e3
  obtain rfl:=Option.some.inj e3
  obtain⟨sl3,e4⟩:=x2 b _ e2 nf
  exact⟨sl3,e4⟩
 ·obtain⟨o1,e1⟩:=I.base.there b o q (nex b)
  exact h3 b o1 e1 (I.base.free b o q n (nex b))
 ·obtain⟨m1,e1⟩:=I.base.tbls b ps q
  obtain⟨m2,e2⟩:=h6 b _ e1
  exact⟨m1++m2,by rw[e2,Array.append_assoc]⟩
end
theorem zU {P:Program}{w:World}{K:PySem.W.Frag}{mg:Str→Option Value}{base:Heap}{N:List Str}{qual:Str}{scope:Scope}{f:Addr}{cd:Value}{A:Around}{outer:List Env}{s:Shared}{H:Hp}{E:XK} :
  vR (CX1 P w) (zau (CX1 P w) P w K mg base N qual scope f cd A outer s H E) E:=fun pins σ H' s' e s'' I hf=>fly_pass I rfl rfl rfl hf
theorem Fun.okX {P:Program}{w:World}{K:PySem.W.Frag}{mg:Str→Option Value}{base:Heap}{x qual:Str}{st:Stmt}{f:Addr}{fd:FuncData}{N ps:List Str}{k:Nat}{sp:Sp}(F:Fun K x qual st f fd)(S:FnScope N ps (zu st))(len:∀vs H Q E,sp vs H Q E→vs.length=ps.length)
  (hbody:∀(cdv:Value) (A:Around) (outer:List Env) (s:Shared) (H:Hp) (vs:List V) (Q:VK) (E:XK),Room k (A.deeper (envOfC qual (zu st) s.heap.objs.size f cdv))→sp vs H Q E →
   ∃t,PSs (zau (CX1 P w) P w K mg base N qual (zu st) f cdv A outer s H E) (wH st) t∧t {nx:=fun _ H'=>Q .non H',rt:=Q} (start N vs) H):FnOk P w K mg base (CX1 P w) (k+1) f fd ps sp:=by
 obtain⟨oc,od,kV,doc,pm,an,cdv,ct,osl,rfl,lk,hcd⟩:=F.ex
 exact fn_of lk hcd S len fun A outer s H vs Q E hr hsp=>hbody cdv A outer s H vs Q E hr hsp
theorem PS.nox {X:Cx}{st:Stmt}{t:TS}(h:PS X.nox st t):PS X st t:=fun pins s σ H D I hw =>
 wpAny_mono (h pins s σ H D (I.wish _) hw) (fun _ _ q=>q.unwish) fun _ _ z=>False.elim z
theorem PA.nox {X:Cx}{es:List Expr}{t:TA}(h:PA X.nox es t):PA X es t:=fun pos pins s σ H Q I hw =>
 wpAny_mono (h pos pins s σ H Q (I.wish _) hw) (fun _ _ ⟨v,H',I',r,q⟩=>⟨v,H',I'.unwish,r,q⟩) fun _ _ z=>False.elim z
structure Own (K:PySem.W.Frag)(mg:Str→Option Value)(x:Str) where
 C:Addr
 mgx:mg x=some (.ref C)
 exc:PySem.W.excIn K C [.type "ValueError", .type "Exception", .type "BaseException", .type "object"] "ValueError.__new__" = true
inductive ExcD (o:Option Obj)(A:Option Addr→ClassData→Array (Option Value)→Bool):Prop
 | mk (dd:Option Addr) (cd:ClassData) (sl:Array (Option Value)) (e:o=some ⟨.type "type", dd,.cls cd,sl⟩) (q:A dd cd sl=true)
inductive ExcR (x:List Value)(y:List (Option Value))(A:Addr→List Value→Option Value→Option Value→Option Value→Option Value→String→Option Value→Bool):Prop
 | mk (C':Addr) (bm:List Value) (k0 k1 k2 k3:Option Value) (n:String) (k5:Option Value) (e:x=.ref C'::bm) (f:y=[k0,k1,k2,k3,some (.builtin n),k5]) (q:A C' bm k0 k1 k2 k3 n k5=true)
inductive ExcO (h:Heap)(C:Addr)(bmB:List Value)(newId:String):Prop
 | mk (bm:List Value) (N:Addr) (nm qn:Str) (bs:List Value) (hdct:Bool) (sn:List Str) (sub:List Value) (ab:Bool) (col:Option Bool) (dd:Option Addr) (k0 k1 k2 k3 k5:Option Value) (mN:Str→Option Value)
   (hC:h.get? C=some (excClassObj nm qn C N bs bm hdct sn sub ab col dd k0 k1 k2 k3 k5 newId)) (hN:h.Ns N mN) (hni:mN "__init__" = none) (T:OwnTail h bmB bm)
theorem exc_m6 {o:Option Obj}{A:Option Addr→ClassData→Array (Option Value)→Bool}(q:PySem.W.excIn.match_6 (fun _=>Bool) o A (fun _=>false)=true):ExcD o A:=by
 rcases o with _|⟨c,dd,da,sl⟩
 ·exact absurd q Bool.false_ne_true
 ·cases c
  all_goals first|exact absurd q Bool.false_ne_true|skip
  rename_i s
  by_cases hs:s = "type"
  ·subst hs
   cases da
   all_goals first|exact absurd q Bool.false_ne_true|exact⟨_,_,_,rfl,q⟩
  ·delta PySem.W.excIn.match_6 at q
   exact absurd ((dif_neg hs).symm.trans q) Bool.false_ne_true
theorem exc_m1 {x:List Value}{y:List (Option Value)}{A:Addr→List Value→Option Value→Option Value→Option Value→Option Value→String→Option Value→Bool}(q:PySem.W.excIn.match_1 (fun _ _=>Bool) x y A (fun _ _=>false)=true):ExcR x y A:=by
 rcases x with _|⟨v,bm⟩
 ·exact absurd q Bool.false_ne_true
 cases v
 all_goals first|exact absurd q Bool.false_ne_true|skip
 rcases y with _|⟨k0,_|⟨k1,_|⟨k2,_|⟨k3,_|⟨k4,y⟩⟩⟩⟩⟩
 all_goals first|exact absurd q Bool.false_ne_true|skip
 rcases k4 with _|k4
 ·exact absurd q Bool.false_ne_true
 cases k4
 all_goals first|exact absurd q Bool.false_ne_true|skip
 rcases y with _|⟨k5,_|⟨k6,y⟩⟩
 all_goals first|exact absurd q Bool.false_ne_true|exact⟨_,_,_,_,_,_,_,_,rfl,rfl,q⟩
theorem exc_obj {K:PySem.W.Frag}{h:Heap}{C:Addr}{bmB:List Value}{newId:String}(X:K.In h)(q:PySem.W.excIn K C bmB newId=true):ExcO h C bmB newId:=by
 obtain⟨dd,cd,sl,ho,q⟩:=exc_m6 q
 obtain⟨C',bm,k0,k1,k2,k3,n,k5,hm,hs,q⟩:=exc_m1 q
 simp only[Bool.and_eq_true,beq_iff_eq,Bool.not_eq_true'] at q
 obtain⟨⟨⟨⟨⟨rfl,rfl⟩,hdel⟩,ht⟩,hok⟩,hni⟩:=q
 obtain⟨nm,bs,mro,ns,qn,hd,sn,sub,ab,col,del⟩:=cd
 obtain⟨l⟩:=sl
 dsimp only at hm hdel hok hni hs
 subst hm hdel hs
 exact⟨bm,ns,nm,qn,bs,hd,sn,sub,ab,col,dd,k0,k1,k2,k3,k5,_,X _ _ ho,.of_isNs (PySem.W.isNs_of_in X hok),PySem.W.nsMap_none_of_in X hok hni,PySem.W.tail_of_in X ht⟩
def tRaise (C:Addr)(E:XK)(t:TA):TS:=fun _ σ H=>t σ H fun vs H1=>vs.length≤3∧E (.ref C) none H1
section
variable {P:Program}{w:World}{K:PySem.W.Frag}{mg:Str→Option Value}{base:Heap}{N:List Str}{qual:Str}{scope:Scope}{f:Addr}{cd:Value}{A:Around}{outer:List Env}{s₁:Shared}{H₁:Hp}{E:XK}
theorem ps_raise {x:Str}{e₀:Expr}{rest:List Expr}{np cpos pos:Pos}{t:TA}(O:Own K mg x)(hg:Gl (zau (CX1 P w) P w K mg base N qual scope f cd A outer s₁ H₁ E) x)
  (ha:PA (zau (CX1 P w) P w K mg base N qual scope f cd A outer s₁ H₁ E) (e₀::rest) t)
  (he:starEach (e₀::rest) (zau (CX1 P w) P w K mg base N qual scope f cd A outer s₁ H₁ E).env=(false,eval e₀ (zau (CX1 P w) P w K mg base N qual scope f cd A outer s₁ H₁ E).env)::starEach rest (zau (CX1 P w) P w K mg base N qual scope f cd A outer s₁ H₁ E).env:=by rfl)
  (hpl:(backTo cpos (starEach rest (zau (CX1 P w) P w K mg base N qual scope f cd A outer s₁ H₁ E).env)).any (·.1)=false:=by rfl) (hd:(x == ("__debug__" : Str))=false:=by decide) :
  PS (zau (CX1 P w) P w K mg base N qual scope f cd A outer s₁ H₁ E) (.Raise (some (.Call (.Name x np) (e₀::rest) [] cpos)) none pos) (tRaise O.C E t):=by
 intro pins s σ H D I h
 obtain⟨tl,Na,nm,q,bs,hdct,sn,sub,ab,col,dd,k0,k1,k2,k3,k5,mN,hC,hN,hni,T⟩:=exc_obj I.ok.mod.kin O.exc
 refine wpAny_Raise_call_subT (C:=O.C) (nm:=nm) (q:=q) (N:=Na) (bs:=bs) (bm:=tl) (hdct:=hdct) (sn:=sn) (sub:=sub) (ab:=ab) (col:=col) (dd:=dd) (k0:=k0) (k1:=k1) (k2:=k2) (k3:=k3) (k5:=k5)
  PySem.F.excBase_ValueError (mN:=mN) (T.hasType PySem.F.excBase_ValueError.hasBase) (I.ok.hd rfl) (by rw[he];show(false || (backTo cpos (starEach rest (zau (CX1 P w) P w K mg base N qual scope f cd A outer s₁ H₁ E).env)).any (·.1))=false;rw[hpl];rfl) hni (zcI I hg O.mgx ⟨rfl,?_⟩ hd)
 have h':=ha cpos pins s σ H _ I h
 rw[he] at h' ⊢
 refine Calls.evalArgs_plain (wpAny_mono h' (fun us s₂ ⟨vs,H2,I2,r,hz,q⟩=>⟨rfl,?_,I2.bk _ _ hC,hN.keeps I2.bk,T.keeps I2.bk,fun h'' e hm=>fly_raise I2 rfl rfl rfl hm q⟩) fun _ _ y=>y)
 rw[← r.length,sizeLine_eq]
 omega
end
end L2
namespace L2
open PySem PySem.Spec PyProof.Rows
def excAt (a C:Addr):HO:=.ext fun h=>∃o,h.get? a=some o∧o.cls=.ref C
end L2
namespace L2
open PySem PySem.Spec PyProof.Rows
end L2
namespace L2
open PySem PySem.Spec PyProof.Rows
structure RoomH (k:Nat)(A:Around):Prop where
 dp:A.depth+3*k+5<recursionLimit
 un:A.units+16*k+200<cLine
theorem RoomH.mono {j k:Nat}{A:Around}(r:RoomH k A)(h:j≤k):RoomH j A:=⟨by have:=r.dp;omega,by have:=r.un;omega⟩
end L2
namespace L2
open PySem PySem.Spec PyProof.Rows
theorem zbK {P:Program}{w:World}{X:Cx}:vR (CX1 P w) X E0:=fun _ _ _ _ _ _ _ h=>by
 obtain⟨_,_,_,_,_,_,_,_,_,_,_,_,_,_,_,_,hE⟩:=h
 exact hE.elim
end L2
namespace L2
open PySem PySem.Spec PyProof.Rows
end L2
namespace My
end My
namespace L2
open PySem PySem.Spec PyProof.Rows
theorem zcp {a:List Expr}{b}{c:Pos}{es:List Expr}{env:Env}:starEach (.Tuple a b c::es) env=(false,eval (.Tuple a b c) env)::starEach es env:=by rfl
theorem wM {a b:Expr}{o}{c:Pos}{es:List Expr}{env:Env}:starEach (.BinOp a o b c::es) env=(false,eval (.BinOp a o b c) env)::starEach es env:=by rfl
theorem zR {f:Expr}{a:List Expr}{k}{c:Pos}{es:List Expr}{env:Env}:starEach (.Call f a k c::es) env=(false,eval (.Call f a k c) env)::starEach es env:=by rfl
theorem jE {a b:Expr}{c:Pos}{es:List Expr}{env:Env}:starEach (.Subscript a b c::es) env=(false,eval (.Subscript a b c) env)::starEach es env:=by rfl
theorem zb {a}{c:Pos}{es:List Expr}{env:Env}:starEach (.Name a c::es) env=(false,eval (.Name a c) env)::starEach es env:=by rfl
theorem zG {a}{k}{c:Pos}{es:List Expr}{env:Env}:starEach (.Constant a k c::es) env=(false,eval (.Constant a k c) env)::starEach es env:=by rfl
section
variable {prog:Program}{w:World}{A:Around}{E:Value→Shared→Prop}{s:Shared}
theorem jk {t sl:Addr}{items:Array Value}{vl vu:Value}{lo hi:Option Int}{Q:Value→Shared→Prop}(ht:IsTup s.heap t items)(hs:s.heap.IsSliceOf sl vl vu .none)(pl:IsPart vl lo)(pu:IsPart vu hi)
  (hw:HT.sIx items.size 0 lo=0∧HT.sIx items.size items.size hi=items.size) (h:Q (.ref t) s):wpAny (model prog w) A (getItem (.ref t) (.ref sl)) Q E s:=by
 obtain⟨os,hos,hcs,hds⟩:=id hs
 have hTs:s.TypeIs (.ref sl) "slice" := ⟨os,hos,hcs⟩
 unfold getItem
 try with_reducible refine wpAny_holding ?_
 first|refine wpAny_bind (wpAny_pure ?_)|skip
 refine wpAny_bind (wpAny_sequenceKey ht.typeIs (by decide) ?_)
 refine wpAny_bind (wpAny_callSpecial?_slot (name:=Str.ofString "__getitem__") ht.typeIs PyProof.Rows.slot_tuple_getitem
  (wpAny_call_entry PyProof.Rows.slot_tuple_getitem ht.typeIs entry_tuple_getitem ?_ (args_tuple_getitem _ _)))
 show wpAny _ _ (Builtin.Tuple.tupleItemsOf (.ref t) >>= _) _ _ s
 refine wpAny_bind (tupleItemsOf_ ht ?_)
 refine wpAny_bind (wpAny_typeOf hTs ?_)
 rw[if_pos (by decide)]
 refine wpAny_bind (HT.sliceApplied_gen hs pl pu ?_)
 have hyes:(((HT.sIx items.size 0 lo:Nat):Int) == 0&&(1:Int) == 1&&(HT.sIx items.size items.size hi - HT.sIx items.size 0 lo) == items.size)=true:=by
  rw[hw.1,hw.2]
  simp
 show wpAny _ _ (if (((HT.sIx items.size 0 lo:Nat):Int) == 0&&(1:Int) == 1&&(HT.sIx items.size items.size hi - HT.sIx items.size 0 lo) == items.size)=true then _ else _) _ _ s
 rw[if_pos hyes]
 refine wpAny_bind (m:=Builtin.Tuple.tupleIsExact (.ref t)) ?_
 unfold Builtin.Tuple.tupleIsExact
 refine wpAny_bind (wpAny_typeOf ht.typeIs (wpAny_pure ?_))
 rw[if_pos (by decide)]
 first
  | exact wpAny_bind (wpAny_rule (wpAny_pure ⟨_,rfl,wpAny_pure h⟩))
  | exact wpAny_bind (wpAny_rule (wpAny_pure ⟨_,rfl,h⟩))
end
section
variable {X:Cx}
def rSlU (K:PySem.W.Frag):V→Option Int→Option Int→Hp→VK→Prop:=fun x lo hi H Q=>∃a xs,x=.ref a∧SqT K H a xs∧∀p H',Same H H'→SqT K H' p (cutV xs lo hi)→Q (.ref p) H'
theorem sl_tupU:SlR X (rSlU X.K):=by
 intro pins s σ H x v vl vu lo hi sl Q I rx hs pl pu h
 obtain⟨a,xs,rfl,hx,q⟩:=h
 by_cases hw:HT.sIx xs.length 0 lo=0∧HT.sIx xs.length xs.length hi=xs.length
 ·cases rx
  obtain⟨its,r,ht,hz⟩:=I.tuple hx
  have hlen:its.toArray.size=xs.length:=by rw[List.size_toArray];exact r.length.symm
  refine⟨"tuple", _,PyProof.Rows.slot_tuple_getitem.lookup,ht.typeIs,jk ht hs pl pu (by rw[hlen];exact hw) ⟨.ref a,H,I,rfl,q a H (Same.refl _) ?_⟩⟩
  have:cutV xs lo hi=xs:=by
   unfold cutV
   rw[hw.1,hw.2,List.drop_zero,Nat.sub_zero,List.take_length]
  rw[this]
  exact hx
 ·exact sl_tup pins s σ H (.ref a) v vl vu lo hi sl Q I rx hs pl pu ⟨a,xs,rfl,hx,hw,fun p hp=>q p _ (Same.upd hp) (SqT.of zM)⟩
end
end L2
namespace L2
open PySem PySem.Spec PyProof.Rows
end L2
set_option maxHeartbeats 2000000
namespace L2
open PySem PySem.Spec PyProof.Rows
section
variable {X:Cx}{pins:List (Addr×Obj)}{σ:St}{H:Hp}{s:Shared}{a:Addr}{xs:List V}
theorem src_of (I:Inv X pins σ H s)(h:SqL X.K H a xs∨SqT X.K H a xs):∃(its:List Value) (o:Obj) (G:Heap→Prop),Vals xs its∧xs.length≤sizeLine∧o.isFreed=false∧Zp.Itb a o G∧G s.heap ∧
  (∀h h':Heap,(∀u,h.get? a=some u→h'.get? a=some u)→G h→G h')∧(∃u,s.heap.get? a=some u) ∧
  ∀it,a≠it→∃S:Nat→Heap→Prop,Zp.Src X.prog X.w it a its.length (fun i=>its.toArray.getD i .none) S∧∀h:Heap,h.get? it=some o→G h→S 0 h:=by
 rcases h with h|h
 ·obtain⟨its,rv,pl,hz⟩:=I.list h
  have pl':s.heap.IsList a its.toArray:=pl.isList
  refine⟨its,Zp.lIter a,fun h=>h.IsList a its.toArray,rv,hz,rfl,Zp.itb_lst a _,pl',fun h h' k ⟨o,e,r⟩=>⟨o,k _ e,r⟩,?_,fun it hne=>⟨_,Zp.src_lst (xs:=its.toArray) hne,fun h e g=>⟨⟨_,e,rfl,rfl⟩,g⟩⟩⟩
  obtain⟨o,e,_⟩:=pl'
  exact⟨o,e⟩
 ·obtain⟨its,rv,pl,hz⟩:=I.tuple h
  have pl':s.heap.IsTuple a its.toArray:=pl
  refine⟨its,Zp.tIter a,fun h=>h.IsTuple a its.toArray,rv,hz,rfl,Zp.itb_tup a _,pl',fun h h' k ⟨o,e,r⟩=>⟨o,k _ e,r⟩,?_,fun it hne=>⟨_,Zp.src_tup (xs:=its.toArray) hne,fun h e g=>⟨⟨_,e,rfl,rfl⟩,g⟩⟩⟩
  obtain⟨o,e,_⟩:=pl'
  exact⟨o,e⟩
end
def zipT (ls:List (List Nat))(xs:List V):List (Key×V):=(List.range (min ls.length xs.length)).foldl (fun m j=>putK m (Sum.inr (T (ls.getD j []))) (xs.getD j .non)) []
theorem zipT_len (ls:List (List Nat))(xs:List V):(zipT ls xs).length≤ls.length:=by
 have key:∀(ps:List Nat) (m:List (Key×V)),(ps.foldl (fun m j=>putK m (Sum.inr (T (ls.getD j []))) (xs.getD j .non)) m).length≤m.length+ps.length:=by
  intro ps
  induction ps with
  | nil=>intro m;simp
  | cons p r ih =>
   intro m
   rw[List.foldl_cons]
   have h1:=ih (putK m (Sum.inr (T (ls.getD p []))) (xs.getD p .non))
   have h2:=length_putK m (Sum.inr (T (ls.getD p [])):Key) (xs.getD p .non)
   rw[List.length_cons]
   omega
 have:=key (List.range (min ls.length xs.length)) []
 rw[List.length_range,List.length_nil] at this
 exact Nat.le_trans this (by omega)
theorem zdF {xs:List V}{us:List Value}(r:Vals xs us){j:Nat}(hj:j<us.length):RelV (xs.getD j .non) (us.toArray.getD j .none):=by
 induction r generalizing j with
 | nil=>simp at hj
 | cons p t ih =>
  cases j with
  | zero=>simpa using p
  | succ j =>
   have:=ih (j:=j) (by simpa using hj)
   rename_i _ _ l1 l2
   have hj':j<l2.length:=by simpa using hj
   simpa [Array.getD,hj'] using this
theorem kv_range {ls:List (List Nat)}{xs:List V}{us:List Value}(r:Vals xs us):∀(js:List Nat) {m:List (Key×V)}{ms:List (Key×Value)},(∀j∈js,j<us.length)→KV m ms →
  KV (js.foldl (fun m j=>putK m (Sum.inr (T (ls.getD j []))) (xs.getD j .non)) m) (js.foldl (fun m j=>stored m (Sum.inr (T (ls.getD j [])):Key) (us.toArray.getD j .none)) ms)
 | [],_,_,_,k=>k
 | j::js,_,_,h,k=>by
  rw[List.foldl_cons,List.foldl_cons]
  exact kv_range r js (fun i hi=>h i (.tail _ hi)) (k.put _ (zdF r (h j (.head _))))
def tZipS (K:PySem.W.Frag)(ta tb:TE):TE:=fun σ H Q=>zav ta (zav tb tNil) σ H fun vs H2=>∃(ls:List (List Nat)) (a b:Addr) (xs:List V),vs=[.ref a,.ref b]∧(SqL K H2 a (vT ls)∨SqT K H2 a (vT ls))∧(SqL K H2 b xs∨SqT K H2 b xs)∧ls.length≤1000∧∀p,H2 p=none→Q (.ref p) (upd H2 p (.dK (zipT ls xs)))
section
variable {X:Cx}
theorem zeb {a b:Expr}{ta tb:TE}{p1 p2 pos1 pos2:Pos}(hc:X.calm=true)(ha:PE X a ta)(hb:PE X b tb)(hd:Gl X "dict")(hz:Gl X "zip")(md:X.mg "dict" = none)(mz:X.mg "zip" = none)
  (hs:starEach [a,b] X.env=[(false,eval a X.env),(false,eval b X.env)]:=by rfl) (hs2:starEach [b] X.env=[(false,eval b X.env)]:=by rfl)
  (hs3:starEach [.Call (.Name "zip" p2) [a,b] [] pos2] X.env=[(false,eval (.Call (.Name "zip" p2) [a,b] [] pos2) X.env)]:=by rfl) :
  PE X (.Call (.Name "dict" p1) [.Call (.Name "zip" p2) [a,b] [] pos2] [] pos1) (tZipS X.K ta tb):=by
 intro pins s σ H Q I h
 refine wpAny_Call_Name_kw (zas I hd md boot_dict ?_)
 refine PyProof.Rows.callWith_type1 ?_ hs3 rfl
 rw[hs3]
 show wpAny _ _ (spliced ((false,eval (.Call (.Name "zip" p2) [a,b] [] pos2) X.env)::backTo pos1 [])) _ _ s
 refine Calls.spliced_cons ?_
 have hA:PA X [a,b] (zav ta (zav tb tNil)):=xK ha (xK hb uD hs2) (by rw[hs,hs2])
 refine wpAny_Call_Name_kw (zas I hz mz boot_zip ?_)
 refine PyProof.Rows.callWith_type1 (thn (hA pos2 pins s σ H _ I h) fun us s1 hq38=>?_) (by rw[hs,hs2]) (by rw[hs2];rfl)
 obtain⟨vs,H2,I2,r2,ls,A1,B1,xs,ev,hq,hq2,hl,q⟩:=hq38
 subst ev
 obtain⟨u1,u2,rfl,ru1,ru2⟩:=vals2 r2
 cases ru1
 cases ru2
 obtain⟨its1,o1,G1,rv1,hz1,fr1,it1,g1,mv1,⟨w1,e1⟩,sr1⟩:=src_of I2 hq
 obtain⟨its2,o2,G2,rv2,hz2,fr2,it2,g2,mv2,⟨w2,e2⟩,sr2⟩:=src_of I2 hq2
 refine Zp.call_zipG fr1 fr2 it1 it2 (fun h g=>mv2 _ _ (fun u e=>Heap.get?_push_of_some _ e) g) g1 g2 fun h1 m5=>?_
 refine Calls.spliced_nil ?_
 obtain⟨m1,m2,m3,m4,m6,m7,m8⟩:=m5
 have lt:∀{c:Addr}{o:Obj},s1.heap.get? c=some o→c<s1.heap.objs.size:=fun e=>Heap.lt_size e
 have hA1:=lt e1
 have hB1:=lt e2
 obtain⟨S1,C1,z1⟩:=sr1 s1.heap.objs.size (z7 (.inl hA1))
 obtain⟨S2,C2,z2⟩:=sr2 (s1.heap.objs.size+1) (z7 (.inl (Nat.lt_of_lt_of_le hB1 (by omega))))
 have el1:ls.length=its1.length:=by have:=rv1.length;unfold vT at this;rw[List.length_map] at this;exact this
 have el2:xs.length=its2.length:=rv2.length
 refine Zp.call_dict_zipG (knd:=vA X.prog X.w) (s:={s1 with heap:=h1}) (z:=s1.heap.objs.size+4) (TI:=s1.heap.objs.size+2) (TO:=s1.heap.objs.size+3) (i1:=s1.heap.objs.size) (i2:=s1.heap.objs.size+1) (p1:=A1) (p2:=B1)
  (I.ok.hd hc) ⟨z7 (by omega),z7 (by omega),z7 (by omega),z7 (by omega),z7 (by omega),z7 (by omega),z7 (by omega),z7 (by omega),z7 (by omega),z7 (by omega)⟩
  (z7 (.inl (Nat.lt_of_lt_of_le hA1 (by omega)))) (z7 (.inl (Nat.lt_of_lt_of_le hA1 (by omega)))) (z7 (.inl (Nat.lt_of_lt_of_le hA1 (by omega))))
  (z7 (.inl (Nat.lt_of_lt_of_le hB1 (by omega)))) (z7 (.inl (Nat.lt_of_lt_of_le hB1 (by omega)))) (z7 (.inl hB1)) C1 C2 (fun j=>Sum.inr (T (ls.getD j []))) (fun j hj=>?_) (by omega)
  m1 m2 m3 (z1 _ m4 (mv1 _ _ (fun u e=>m8 _ _ e) g1)) (z2 _ m6 (mv2 _ _ (fun u e=>m8 _ _ e) g2)) fun h2 tk hdict keep=>?_
 ·have hj1:j<its1.length:=by omega
  have r:=zdF rv1 hj1
  have er:(vT ls).getD j .non=.str (T (ls.getD j [])):=by
   unfold vT
   simp[List.getD,el1,hj1]
  rw[er] at r
  obtain⟨t,e⟩:=r
  rw[e]
  exact zbf _ _ _ t
 have keep1:∀b o,s1.heap.get? b=some o→h2.get? b=some o:=fun b o e=>by
  have hb:=lt e
  exact keep b o (z7 (.inl (Nat.lt_of_lt_of_le hb (by omega)))) (z7 (.inl (Nat.lt_of_lt_of_le hb (by omega)))) (z7 (.inl hb)) (z7 (.inl (Nat.lt_of_lt_of_le hb (by omega)))) (m8 b o e)
 have hp:s1.heap.objs.size≤h1.objs.size:=by rw[m7];omega
 have hnone:H2 h1.objs.size=none:=I2.hok.fresh hp
 refine⟨.ref h1.objs.size,upd H2 h1.objs.size (.dK (zipT ls xs)),I2.laid (h':=h2) (t':=tk) keep1 hp ?_,rfl,q _ hnone⟩
 refine⟨?_,?_,_,?_,hdict⟩
 ·have:=zipT_len ls xs
  rw[sizeLine_eq];omega
 ·have hbig:=I2.big
  exact beq_eq_false_iff_ne.mpr (by have:=hbig;intro z;rw[z] at hp;exact absurd (Nat.lt_of_lt_of_le hbig hp) (Nat.lt_irrefl _))
 ·unfold zipT
  rw[el1,el2]
  exact kv_range rv2 _ (fun j hj=>by have:=List.mem_range.mp hj;omega) KV_nil
end
end L2
namespace L2
open PySem PySem.Spec PyProof.Rows
end L2
set_option maxHeartbeats 1000000
namespace L2
open PySem
def txt:Value→Str
 | .str x _=>x
 | _=>⟨#[]⟩
structure StS (w:World)(es:Array (Int×Value))(t:SetTable)(ks:List Str):Prop where
 shape:∀e∈es.toList,∃x tk,e=(hashStr w x,Value.str x tk)
 keys:(es.toList.map fun e=>txt e.2).Perm ks
 nd:ks.Nodup
 fits:t.fits es.size=true
 led:t.led = !w.params.followText "set-order"
 plain:es.size=0∨t.plain=false
 few:es.size<scanBound
theorem StS.size {w:World}{es:Array (Int×Value)}{t:SetTable}{ks:List Str}(S:StS w es t ks):es.size=ks.length:=by
 have:=S.keys.length_eq
 simpa using this
theorem isStrOf_txt {x y:Str}{tk:Tok}:Value.isStrOf x (.str y tk)=true↔x=y:=by
 constructor
 ·intro h
  obtain⟨t,e⟩:=Value.isStrOf_shape h
  injection e with e _
  exact e.symm
 ·rintro rfl;simp[Value.isStrOf,Value.isStr]
theorem StS.find {w:World}{es:Array (Int×Value)}{t:SetTable}{ks:List Str}(S:StS w es t ks)(x:Str):(∃e∈es.toList,Value.isStrOf x e.2=true)↔x∈ks:=by
 rw[← S.keys.mem_iff,List.mem_map]
 constructor
 ·rintro⟨e,he,h⟩
  obtain⟨y,tk,rfl⟩:=S.shape e he
  exact⟨_,he,(isStrOf_txt.mp h).symm⟩
 ·rintro⟨e,he,h⟩
  obtain⟨y,tk,rfl⟩:=S.shape e he
  exact⟨_,he,isStrOf_txt.mpr h.symm⟩
end L2
namespace L2
open PySem
end L2
namespace L2
open PySem
end L2
namespace L2
open PySem
end L2
set_option maxHeartbeats 3200000
namespace L2
open PySem PySem.Spec PyProof.Rows
section
variable {prog:Program}{w:World}{A:Around}{E:Value→Shared→Prop}{s:Shared}
theorem StS.new:StS w #[] (.fresh 0 0 (!w.params.followText "set-order")) [] where
 shape:=fun e he=>by simp at he
 keys:=List.Perm.refl _
 nd:=List.nodup_nil
 fits:=rfl
 led:=rfl
 plain:=.inl rfl
 few:=by decide
end
end L2
namespace L2
open PySem PySem.Spec PyProof.Rows
end L2
set_option maxHeartbeats 1000000
namespace L2
open PySem PySem.Spec PyProof.Rows
end L2
namespace L2
open PySem PySem.Spec PyProof.Rows
inductive D where
 | non|bl (b:Bool)|int (i:Int)|str (l:List Nat)|lst (xs:List D)|tup (xs:List D)|dct (kvs:List (List Nat×D))|exc (n:Nat)
inductive Rs (α:Type) where
 | ok (a:α)|ex (n:Nat)|no
def Rs.bind {α β:Type}:Rs α→(α→Rs β)→Rs β
 | .ok a,f=>f a
 | .ex n,_=>.ex n
 | .no,_=>.no
inductive Sl where
 | no|fz (d:D)|ow (xs:List D)|od (kvs:List (List Nat×D))
abbrev Rho:=List Sl
inductive Out where
 | nx (ρ:Rho)|rt (d:D)|bk (ρ:Rho)|ct (ρ:Rho)|ex (n:Nat)|no
mutual
inductive Dt (K:PySem.W.Frag)(cl:Nat→Addr)(F:Hp):V→D→Prop
 | non:Dt K cl F .non .non
 | bl (b:Bool):Dt K cl F (.bl b) (.bl b)
 | int (i:Int):Dt K cl F (.int i) (.int i)
 | str (l:List Nat) (ok:TxtOk (T l)):Dt K cl F (.str (T l)) (.str l)
 | lst {a:Addr}{xs:List V}{ds:List D}:SqL K F a xs→Dts K cl F xs ds→Dt K cl F (.ref a) (.lst ds)
 | tup {a:Addr}{xs:List V}{ds:List D}:SqT K F a xs→Dts K cl F xs ds→Dt K cl F (.ref a) (.tup ds)
 | dct {a:Addr}{kvs:List (Key×V)}{ds:List (List Nat×D)}:F a=some (.dK kvs)→Dks K cl F kvs ds→Dt K cl F (.ref a) (.dct ds)
 | exc {a:Addr}{n:Nat}:F a=some (excAt a (cl n))→Dt K cl F (.ref a) (.exc n)
inductive Dts (K:PySem.W.Frag)(cl:Nat→Addr)(F:Hp):List V→List D→Prop
 | nil:Dts K cl F [] []
 | cons {v:V}{d:D}{vs:List V}{ds:List D}:Dt K cl F v d→Dts K cl F vs ds→Dts K cl F (v::vs) (d::ds)
inductive Dks (K:PySem.W.Frag)(cl:Nat→Addr)(F:Hp):List (Key×V)→List (List Nat×D)→Prop
 | nil:Dks K cl F [] []
 | cons {l:List Nat}{v:V}{d:D}{vs:List (Key×V)}{ds:List (List Nat×D)}:TxtOk (T l)→Dt K cl F v d→Dks K cl F vs ds→Dks K cl F ((Sum.inr (T l),v)::vs) ((l,d)::ds)
end
section
variable {K:PySem.W.Frag}{cl:Nat→Addr}{F F' H H':Hp}
theorem Dt.monos (e:Same F F'):(∀{v:V}{d:D},Dt K cl F v d→Dt K cl F' v d)∧(∀{vs:List V}{ds:List D},Dts K cl F vs ds→Dts K cl F' vs ds)∧(∀{vs:List (Key×V)}{ds:List (List Nat×D)},Dks K cl F vs ds→Dks K cl F' vs ds):=by
 refine⟨fun {v d} h=>?_,fun {vs ds} h=>?_,fun {vs ds} h=>?_⟩
 ·exact Dt.rec (motive_1:=fun v d _=>Dt K cl F' v d) (motive_2:=fun vs ds _=>Dts K cl F' vs ds) (motive_3:=fun vs ds _=>Dks K cl F' vs ds) .non .bl .int .str (fun q _ ih=>.lst (e.seq q) ih) (fun q _ ih=>.tup (e.seqT q) ih) (fun q _ ih=>.dct (e _ _ q) ih) (fun q=>.exc (e _ _ q)) .nil (fun _ _ a b=>.cons a b) .nil (fun ok _ _ a b=>.cons ok a b) h
 ·exact Dts.rec (motive_1:=fun v d _=>Dt K cl F' v d) (motive_2:=fun vs ds _=>Dts K cl F' vs ds) (motive_3:=fun vs ds _=>Dks K cl F' vs ds) .non .bl .int .str (fun q _ ih=>.lst (e.seq q) ih) (fun q _ ih=>.tup (e.seqT q) ih) (fun q _ ih=>.dct (e _ _ q) ih) (fun q=>.exc (e _ _ q)) .nil (fun _ _ a b=>.cons a b) .nil (fun ok _ _ a b=>.cons ok a b) h
 ·exact Dks.rec (motive_1:=fun v d _=>Dt K cl F' v d) (motive_2:=fun vs ds _=>Dts K cl F' vs ds) (motive_3:=fun vs ds _=>Dks K cl F' vs ds) .non .bl .int .str (fun q _ ih=>.lst (e.seq q) ih) (fun q _ ih=>.tup (e.seqT q) ih) (fun q _ ih=>.dct (e _ _ q) ih) (fun q=>.exc (e _ _ q)) .nil (fun _ _ a b=>.cons a b) .nil (fun ok _ _ a b=>.cons ok a b) h
theorem Dt.mono {v:V}{d:D}(h:Dt K cl F v d)(e:Same F F'):Dt K cl F' v d:=(Dt.monos e).1 h
theorem Dts.mono {vs:List V}{ds:List D}(h:Dts K cl F vs ds)(e:Same F F'):Dts K cl F' vs ds:=(Dt.monos e).2.1 h
theorem Dks.mono {vs:List (Key×V)}{ds:List (List Nat×D)}(h:Dks K cl F vs ds)(e:Same F F'):Dks K cl F' vs ds:=(Dt.monos e).2.2 h
theorem Dts.length:∀{vs:List V}{ds:List D},Dts K cl F vs ds→vs.length=ds.length
 | _,_,.nil=>rfl
 | _,_,.cons _ r=>by simp[r.length]
theorem Dts.append:∀{vs ws:List V}{ds es:List D},Dts K cl F vs ds→Dts K cl F ws es→Dts K cl F (vs++ws) (ds++es)
 | _,_,_,_,.nil,s=>s
 | _,_,_,_,.cons r t,s=>.cons r (Dts.append t s)
theorem Dts.get:∀{vs:List V}{ds:List D}{i:Nat}{v:V},Dts K cl F vs ds→vs[i]? = some v→∃d,ds[i]? = some d∧Dt K cl F v d
 | _,_,_,_,.nil,e=>by simp at e
 | _,_,0,_,.cons r _,e=>by simp at e;subst e;exact⟨_,rfl,r⟩
 | _,_,i+1,v,.cons _ t,e=>by
  obtain⟨d,h1,h2⟩:=Dts.get (i:=i) (v:=v) t (by simpa using e)
  exact⟨d,by simpa using h1,h2⟩
theorem Dts.get':∀{vs:List V}{ds:List D}{i:Nat}{d:D},Dts K cl F vs ds→ds[i]? = some d→∃v,vs[i]? = some v∧Dt K cl F v d
 | _,_,_,_,.nil,e=>by simp at e
 | _,_,0,_,.cons r _,e=>by simp at e;subst e;exact⟨_,rfl,r⟩
 | _,_,i+1,d,.cons _ t,e=>by
  obtain⟨v,h1,h2⟩:=Dts.get' (i:=i) (d:=d) t (by simpa using e)
  exact⟨v,by simpa using h1,h2⟩
theorem Dts.take:∀{vs:List V}{ds:List D} (n:Nat),Dts K cl F vs ds→Dts K cl F (vs.take n) (ds.take n)
 | _,_,0,_=>.nil
 | _,_,_+1,.nil=>.nil
 | _,_,n+1,.cons r t=>.cons r (Dts.take n t)
theorem Dts.drop:∀{vs:List V}{ds:List D} (n:Nat),Dts K cl F vs ds→Dts K cl F (vs.drop n) (ds.drop n)
 | _,_,0,r=>r
 | _,_,_+1,.nil=>.nil
 | _,_,n+1,.cons _ t=>Dts.drop n t
mutual
def D.py:D→PyData
 | .non=>.none
 | .bl b=>.bool b
 | .int i=>.int i
 | .str l=>.str (T l)
 | .lst xs=>.list (D.pys xs)
 | .tup xs=>.tuple (D.pys xs)
 | .dct _=>.none
 | .exc _=>.none
def D.pys:List D→List PyData
 | []=>[]
 | d::ds=>d.py::D.pys ds
end
mutual
def D.pl:D→Bool
 | .lst xs=>D.pls xs
 | .tup xs=>D.pls xs
 | .dct _=>false
 | .exc _=>false
 | _=>true
def D.pls:List D→Bool
 | []=>true
 | d::ds=>d.pl&&D.pls ds
end
theorem Dt.iss:(∀{v:V}{d:D},Dt K cl F v d→d.pl=true→Is K F v d.py)∧(∀{vs:List V}{ds:List D},Dts K cl F vs ds→D.pls ds=true→Iss K F vs (D.pys ds)):=by
 refine⟨fun {v d} h=>?_,fun {vs ds} h=>?_⟩
 ·exact Dt.rec (motive_1:=fun v d _=>d.pl=true→Is K F v d.py) (motive_2:=fun vs ds _=>D.pls ds=true→Iss K F vs (D.pys ds)) (motive_3:=fun _ _ _=>True) (fun _=>.non) (fun b _=>.bl b) (fun i _=>.int i) (fun l ok _=>.str _ ok) (fun q _ ih p=>.lst q (ih p)) (fun q _ ih p=>.tup q (ih p)) (fun _ _ _ p=>by simp[D.pl] at p) (fun _ p=>by simp[D.pl] at p) (fun _=>.nil)
   (fun _ _ a b p=>by simp only[D.pls,Bool.and_eq_true] at p;exact .cons (a p.1) (b p.2)) trivial (fun _ _ _ _ _=>trivial) h
 ·exact Dts.rec (motive_1:=fun v d _=>d.pl=true→Is K F v d.py) (motive_2:=fun vs ds _=>D.pls ds=true→Iss K F vs (D.pys ds)) (motive_3:=fun _ _ _=>True) (fun _=>.non) (fun b _=>.bl b) (fun i _=>.int i) (fun l ok _=>.str _ ok) (fun q _ ih p=>.lst q (ih p)) (fun q _ ih p=>.tup q (ih p)) (fun _ _ _ p=>by simp[D.pl] at p) (fun _ p=>by simp[D.pl] at p) (fun _=>.nil)
   (fun _ _ a b p=>by simp only[D.pls,Bool.and_eq_true] at p;exact .cons (a p.1) (b p.2)) trivial (fun _ _ _ _ _=>trivial) h
theorem Dt.is {v:V}{d:D}(h:Dt K cl F v d)(p:d.pl=true):Is K F v d.py:=Dt.iss.1 h p
def HO.mu:HO→Bool
 | .tup _=>false
 | .frz _ _=>false
 | _=>true
structure Gr (F H F' H':Hp):Prop where
 ff:Same F F'
 hh:Same H H'
 fh:Same F' H'
 no:∀b o,H b=some o→o.mu=true→F b=none→F' b=none
theorem Gr.refl (h:Same F H):Gr F H F H:=⟨Same.refl _,Same.refl _,h,fun _ _ _ _ q=>q⟩
theorem Gr.trans {F1 H1 F2 H2 F3 H3:Hp}(a:Gr F1 H1 F2 H2)(b:Gr F2 H2 F3 H3):Gr F1 H1 F3 H3 :=
 ⟨a.ff.trans b.ff,a.hh.trans b.hh,b.fh,fun c o hc m q=>b.no c o (a.hh c o hc) m (a.no c o hc m q)⟩
theorem upd_mono {H1 H2:Hp}{p:Addr}{o:HO}(h:Same H1 H2):Same (upd H1 p o) (upd H2 p o):=fun b u e=>by
 by_cases hb:b=p
 ·subst hb;rw[zM] at e ⊢;exact e
 ·rw[zJ hb] at e ⊢;exact h b u e
theorem Gr.new {p:Addr}{o:HO}(h:Same F H)(hp:H p=none):Gr F H (upd F p o) (upd H p o) :=
 ⟨Same.upd (h.free hp),Same.upd hp,upd_mono h,fun b o hb m q=>by
  have hne:b≠p:=fun z=>by rw[z,hp] at hb;cases hb
  rw[zJ hne];exact q⟩
theorem Gr.newO {p:Addr}{o:HO}(h:Same F H)(hp:H p=none):Gr F H F (upd H p o) :=
 ⟨Same.refl _,Same.upd hp,h.trans (Same.upd hp),fun _ _ _ _ q=>q⟩
def Sl.own:Sl→Bool
 | .ow _=>true
 | .od _=>true
 | _=>false
theorem Gr.tup {K:PySem.W.Frag}{cl:Nat→Addr}{p:Addr}{vs:List V}{ds:List D}(h:Same F H)(s:Same H H')(q:SqT K H' p vs)(d:Dts K cl F vs ds):∃F',Gr F H F' H'∧Dt K cl F' (.ref p) (.tup ds):=by
 have s2:Same F H':=h.trans s
 have add:∀o:HO,H' p=some o→o.mu=false→Gr F H (fun b=>if b=p then H' b else F b) H'∧Same F (fun b=>if b=p then H' b else F b):=fun o e m=>by
  have ff:Same F (fun b=>if b=p then H' b else F b):=fun b u e'=>by
   show(if b=p then H' b else F b)=some u
   split
   ·exact s2 b u e'
   ·exact e'
  refine⟨⟨ff,s,fun b u e'=>?_,fun b u hb m' q'=>?_⟩,ff⟩
  ·have e2:(if b=p then H' b else F b)=some u:=e'
   split at e2
   ·exact e2
   ·exact s2 b u e2
  ·show (if b=p then H' b else F b)=none
   split
   ·rename_i w
    subst w
    rw[s b u hb] at e
    injection e with e
    rw[e,m] at m'
    cases m'
   ·exact q'
 rcases q with(e|⟨u,e⟩)|q
 ·obtain⟨g,ff⟩:=add _ e rfl
  exact⟨_,g,.tup (.inl (.inl (by show(if p=p then H' p else F p)=_;rw[if_pos rfl];exact e))) (d.mono ff)⟩
 ·obtain⟨g,ff⟩:=add _ e rfl
  exact⟨_,g,.tup (.inl (.inr ⟨u,by show(if p=p then H' p else F p)=_;rw[if_pos rfl];exact e⟩)) (d.mono ff)⟩
 ·exact⟨F,⟨Same.refl _,s,s2,fun _ _ _ _ z=>z⟩,.tup (.inr q) d⟩
structure Rl (K:PySem.W.Frag)(cl:Nat→Addr)(H0 F0:Hp)(ρ:Rho)(σ:St)(H F:Hp):Prop where
 gr:Gr F0 H0 F H
 len:ρ.length=σ.length
 fz:∀(i:Nat) d,ρ[i]? = some (.fz d)→∃v,σ[i]? = some (some v)∧Dt K cl F v d
 ow:∀(i:Nat) ds,ρ[i]? = some (.ow ds)→∃a vs,σ[i]? = some (some (.ref a))∧H a=some (.lst vs)∧F a=none∧H0 a=none∧Dts K cl F vs ds
 od:∀(i:Nat) ds,ρ[i]? = some (.od ds)→∃a vs,σ[i]? = some (some (.ref a))∧H a=some (.dK vs)∧F a=none∧H0 a=none∧Dks K cl F vs ds
 ap:∀(i j:Nat) s t a,ρ[i]? = some s→ρ[j]? = some t→s.own=true→t.own=true→σ[i]? = some (some (.ref a))→σ[j]? = some (some (.ref a))→i=j
theorem Rl.grow {H0 F0:Hp}{ρ:Rho}{σ:St}(R:Rl K cl H0 F0 ρ σ H F)(g:Gr F H F' H'):Rl K cl H0 F0 ρ σ H' F' where
 gr:=R.gr.trans g
 len:=R.len
 fz:=fun i d e=>let ⟨v,h1,h2⟩:=R.fz i d e;⟨v,h1,h2.mono g.ff⟩
 ow:=fun i d e=>let ⟨a,vs,h1,h2,h3,h4,h5⟩:=R.ow i d e;⟨a,vs,h1,g.hh _ _ h2,g.no a _ h2 rfl h3,h4,h5.mono g.ff⟩
 od:=fun i d e=>let ⟨a,vs,h1,h2,h3,h4,h5⟩:=R.od i d e;⟨a,vs,h1,g.hh _ _ h2,g.no a _ h2 rfl h3,h4,h5.mono g.ff⟩
 ap:=R.ap
theorem Rl.fh {H0 F0:Hp}{ρ:Rho}{σ:St}(R:Rl K cl H0 F0 ρ σ H F):Same F H:=R.gr.fh
theorem get_set {α:Type}{l:List α}{i j:Nat}{x y:α}(h:(l.set i x)[j]? = some y):(i=j∧y=x∧i<l.length)∨(i≠j∧l[j]? = some y):=by
 by_cases e:i=j
 ·subst e
  rw[List.getElem?_set_self'] at h
  cases q:l[i]? with
  | none=>rw[q] at h;cases h
  | some z =>
   rw[q] at h
   exact .inl ⟨rfl,(Option.some.inj h).symm,(List.getElem?_eq_some_iff.mp q).1⟩
 ·rw[List.getElem?_set_ne e] at h
  exact .inr ⟨e,h⟩
theorem xM {α:Type}{l:List α}{i:Nat}{x:α}(h:i<l.length):(l.set i x)[i]? = some x:=by rw[List.getElem?_set_self h]
theorem Rl.set {H0 F0:Hp}{ρ:Rho}{σ:St}{i:Nat}{v:V}{d:D}(R:Rl K cl H0 F0 ρ σ H F)(h:Dt K cl F v d):Rl K cl H0 F0 (ρ.set i (.fz d)) (σ.set i (some v)) H F where
 gr:=R.gr
 len:=by simp[R.len]
 fz := fun j e z=>by
  rcases get_set z with⟨rfl,q,hl⟩|⟨hj,q⟩
  ·injection q with q;subst q
   exact⟨v,xM (R.len▸hl),h⟩
  ·rw[List.getElem?_set_ne hj];exact R.fz j e q
 ow:=fun j e z=>by
  rcases get_set z with⟨rfl,q,hl⟩|⟨hj,q⟩
  ·cases q
  ·rw[List.getElem?_set_ne hj];exact R.ow j e q
 od:=fun j e z=>by
  rcases get_set z with⟨rfl,q,hl⟩|⟨hj,q⟩
  ·cases q
  ·rw[List.getElem?_set_ne hj];exact R.od j e q
 ap := fun j k s t a z1 z2 o1 o2 e1 e2=>by
  rcases get_set z1 with⟨rfl,q,hl⟩|⟨hj,q⟩
  ·subst q;cases o1
  ·rcases get_set z2 with⟨rfl,q2,hl⟩|⟨hk,q2⟩
   ·subst q2;cases o2
   ·rw[List.getElem?_set_ne hj] at e1;rw[List.getElem?_set_ne hk] at e2
    exact R.ap j k s t a q q2 o1 o2 e1 e2
theorem Rl.apart {H0 F0:Hp}{ρ:Rho}{σ:St}(R:Rl K cl H0 F0 ρ σ H F){j:Nat}{s:Sl}{a:Addr}(e:ρ[j]? = some s)(o:s.own=true)(z:σ[j]? = some (some (.ref a))):H a≠none:=by
 cases s with
 | ow ds =>
  obtain⟨b,vs,h1,h2,_⟩:=R.ow j ds e
  rw[z] at h1
  injection h1 with h1;injection h1 with h1;injection h1 with h1
  rw[h1,h2];exact fun z=>nomatch z
 | od ds =>
  obtain⟨b,vs,h1,h2,_⟩:=R.od j ds e
  rw[z] at h1
  injection h1 with h1;injection h1 with h1;injection h1 with h1
  rw[h1,h2];exact fun z=>nomatch z
 | _=>cases o
theorem Rl.setO {H0 F0:Hp}{ρ:Rho}{σ:St}{i:Nat}{p:Addr}{vs:List V}{ds:List D}(R:Rl K cl H0 F0 ρ σ H F)(hp:H p=none)(h:Dts K cl F vs ds):Rl K cl H0 F0 (ρ.set i (.ow ds)) (σ.set i (some (.ref p))) (upd H p (.lst vs)) F where
 gr:=R.gr.trans (Gr.newO R.fh hp)
 len:=by simp[R.len]
 fz:=fun j e z=>by
  rcases get_set z with⟨rfl,q,hl⟩|⟨hj,q⟩
  ·cases q
  ·rw[List.getElem?_set_ne hj];exact R.fz j e q
 ow := fun j e z=>by
  rcases get_set z with⟨rfl,q,hl⟩|⟨hj,q⟩
  ·injection q with q;subst q
   exact⟨p,vs,xM (R.len▸hl),zM,R.fh.free hp,R.gr.hh.free hp,h⟩
  ·rw[List.getElem?_set_ne hj]
   obtain⟨a,us,h1,h2,h3⟩:=R.ow j e q
   exact⟨a,us,h1,by rw[zJ (fun w=>by rw[w,hp] at h2;cases h2)];exact h2,h3⟩
 od := fun j e z=>by
  rcases get_set z with⟨rfl,q,hl⟩|⟨hj,q⟩
  ·cases q
  ·rw[List.getElem?_set_ne hj]
   obtain⟨a,us,h1,h2,h3⟩:=R.od j e q
   exact⟨a,us,h1,by rw[zJ (fun w=>by rw[w,hp] at h2;cases h2)];exact h2,h3⟩
 ap := fun j k s t a z1 z2 o1 o2 e1 e2=>by
  rcases get_set z1 with⟨rfl,q,hl⟩|⟨hj,q⟩
  ·rcases get_set z2 with⟨rfl,q2,hl2⟩|⟨hk,q2⟩
   ·rfl
   ·rw[xM (R.len▸hl)] at e1;rw[List.getElem?_set_ne hk] at e2
    injection e1 with e1;injection e1 with e1;injection e1 with e1
    exact absurd (e1▸hp) (R.apart q2 o2 e2)
  ·rcases get_set z2 with⟨rfl,q2,hl2⟩|⟨hk,q2⟩
   ·rw[xM (R.len▸hl2)] at e2;rw[List.getElem?_set_ne hj] at e1
    injection e2 with e2;injection e2 with e2;injection e2 with e2
    exact absurd (e2▸hp) (R.apart q o1 e1)
   ·rw[List.getElem?_set_ne hj] at e1;rw[List.getElem?_set_ne hk] at e2
    exact R.ap j k s t a q q2 o1 o2 e1 e2
theorem Rl.put {H0 F0:Hp}{ρ:Rho}{σ:St}{i:Nat}{a:Addr}{us:List V}{ds es:List D}(R:Rl K cl H0 F0 ρ σ H F)(hi:ρ[i]? = some (.ow ds))(hs:σ[i]? = some (some (.ref a)))(h:Dts K cl F us es):Rl K cl H0 F0 (ρ.set i (.ow es)) σ (upd H a (.lst us)) F:=by
 obtain⟨b,ws,h1,h2,h3,h4,_⟩:=R.ow i ds hi
 rw[hs] at h1
 injection h1 with h1;injection h1 with h1;injection h1 with h1
 subst h1
 have far:∀(j:Nat) (s:Sl) (c:Addr),j≠i→ρ[j]? = some s→s.own=true→σ[j]? = some (some (.ref c))→c≠a:=fun j s c hj e o z w=>hj (R.ap j i s _ a e hi o rfl (w▸z) hs)
 refine⟨⟨R.gr.ff,fun c o e=>?_,fun c o e=>?_,R.gr.no⟩,by simp[R.len],fun j e z=>?_,fun j e z=>?_,fun j e z=>?_,fun j k s t c z1 z2 o1 o2 e1 e2=>?_⟩
 ·rw[zJ (fun w=>by rw[w,h4] at e;cases e)];exact R.gr.hh c o e
 ·rw[zJ (fun w=>by rw[w,h3] at e;cases e)];exact R.fh c o e
 ·rcases get_set z with⟨rfl,q,hl⟩|⟨hj,q⟩
  ·cases q
  ·exact R.fz j e q
 ·rcases get_set z with⟨rfl,q,hl⟩|⟨hj,q⟩
  ·injection q with q;subst q
   exact⟨a,us,hs,zM,h3,h4,h⟩
  ·obtain⟨c,xs,k1,k2,k3⟩:=R.ow j e q
   exact⟨c,xs,k1,by rw[zJ (far j _ c (Ne.symm hj) q rfl k1)];exact k2,k3⟩
 ·rcases get_set z with⟨rfl,q,hl⟩|⟨hj,q⟩
  ·cases q
  ·obtain⟨c,xs,k1,k2,k3⟩:=R.od j e q
   exact⟨c,xs,k1,by rw[zJ (far j _ c (Ne.symm hj) q rfl k1)];exact k2,k3⟩
 ·have own:∀(j:Nat) (s:Sl),(ρ.set i (.ow es))[j]? = some s→s.own=true→∃s',ρ[j]? = some s'∧s'.own=true:=fun j s z o=>by
   rcases get_set z with⟨rfl,q,hl⟩|⟨hj,q⟩
   ·exact⟨_,hi,rfl⟩
   ·exact⟨s,q,o⟩
  obtain⟨s',q1,p1⟩:=own j s z1 o1
  obtain⟨t',q2,p2⟩:=own k t z2 o2
  exact R.ap j k s' t' c q1 q2 p1 p2 e1 e2
theorem Rl.ice {H0 F0:Hp}{ρ:Rho}{σ:St}{i:Nat}{ds:List D}(R:Rl K cl H0 F0 ρ σ H F)(hi:ρ[i]? = some (.ow ds)):∃F',Same F F'∧Rl K cl H0 F0 (ρ.set i (.fz (.lst ds))) σ H F':=by
 obtain⟨a,vs,h1,h2,h3,h4,h5⟩:=R.ow i ds hi
 have sm:Same F (upd F a (.lst vs)):=Same.upd h3
 have far:∀(j:Nat) (s:Sl) (c:Addr),j≠i→ρ[j]? = some s→s.own=true→σ[j]? = some (some (.ref c))→c≠a:=fun j s c hj e o z w=>hj (R.ap j i s _ a e hi o rfl (w▸z) h1)
 refine⟨upd F a (.lst vs),sm,⟨⟨R.gr.ff.trans sm,R.gr.hh,fun c o e=>?_,fun c o hc m q=>?_⟩,by simp[R.len],fun j e z=>?_,fun j e z=>?_,fun j e z=>?_,fun j k s t c z1 z2 o1 o2 e1 e2=>?_⟩⟩
 ·by_cases w:c=a
  ·subst w;rw[zM] at e;rw[← e];exact h2
  ·rw[zJ w] at e;exact R.fh c o e
 ·have hne:c≠a:=fun w=>by rw[w,h4] at hc;cases hc
  rw[zJ hne];exact R.gr.no c o hc m q
 ·rcases get_set z with⟨rfl,q,hl⟩|⟨hj,q⟩
  ·injection q with q;subst q
   exact⟨.ref a,h1,.lst (.inl (.inl zM)) (h5.mono sm)⟩
  ·obtain⟨v,k1,k2⟩:=R.fz j e q
   exact⟨v,k1,k2.mono sm⟩
 ·rcases get_set z with⟨rfl,q,hl⟩|⟨hj,q⟩
  ·cases q
  ·obtain⟨c,xs,k1,k2,k3,k4,k5⟩:=R.ow j e q
   exact⟨c,xs,k1,k2,by rw[zJ (far j _ c (Ne.symm hj) q rfl k1)];exact k3,k4,k5.mono sm⟩
 ·rcases get_set z with⟨rfl,q,hl⟩|⟨hj,q⟩
  ·cases q
  ·obtain⟨c,xs,k1,k2,k3,k4,k5⟩:=R.od j e q
   exact⟨c,xs,k1,k2,by rw[zJ (far j _ c (Ne.symm hj) q rfl k1)];exact k3,k4,k5.mono sm⟩
 ·rcases get_set z1 with⟨rfl,q,hl⟩|⟨hj,q⟩
  ·subst q;cases o1
  ·rcases get_set z2 with⟨rfl,q2,hl⟩|⟨hk,q2⟩
   ·subst q2;cases o2
   ·exact R.ap j k s t c q q2 o1 o2 e1 e2
end
end L2
namespace L2
open PySem PySem.Spec PyProof.Rows
def OutE (K:PySem.W.Frag)(cl:Nat→Addr)(E:XK)(H0 F H:Hp)(r:Rs D)(Q:VK):Prop :=
 match r with
 | .ok d=>∀v H' F',Gr F H F' H'→Dt K cl F' v d→Q v H'
 | .ex n=>∀H',Same H0 H'→E (.ref (cl n)) none H'
 | .no=>False
def OutA (K:PySem.W.Frag)(cl:Nat→Addr)(E:XK)(H0 F H:Hp)(r:Rs (List D))(Q:List V→Hp→Prop):Prop :=
 match r with
 | .ok ds=>∀vs H' F',Gr F H F' H'→Dts K cl F' vs ds→Q vs H'
 | .ex n=>∀H',Same H0 H'→E (.ref (cl n)) none H'
 | .no=>False
def OutB (K:PySem.W.Frag)(cl:Nat→Addr)(E:XK)(H0 F H:Hp)(r:Rs Bool)(Q:Bool→Hp→Prop):Prop :=
 match r with
 | .ok b=>∀H' F',Gr F H F' H'→Q b H'
 | .ex n=>∀H',Same H0 H'→E (.ref (cl n)) none H'
 | .no=>False
def OutS (K:PySem.W.Frag)(cl:Nat→Addr)(E:XK)(H0 F0 F:Hp)(o:Out)(Dn:Ends):Prop :=
 match o with
 | .nx ρ=>∀σ H F',Rl K cl H0 F0 ρ σ H F'→Same F F'→Dn.nx σ H
 | .rt d=>∀v H F',Gr F0 H0 F' H→Dt K cl F' v d→Dn.rt v H
 | .bk ρ=>∀σ H F',Rl K cl H0 F0 ρ σ H F'→Same F F'→Dn.bk σ H
 | .ct ρ=>∀σ H F',Rl K cl H0 F0 ρ σ H F'→Same F F'→Dn.ct σ H
 | .ex n=>∀H',Same H0 H'→E (.ref (cl n)) none H'
 | .no=>False
def XE' (X:Cx)(cl:Nat→Addr)(E:XK)(e:Expr)(f:Rho→Rs D):Prop :=
 ∃t:TE,PE X e t∧∀(H0 F0:Hp) (ρ:Rho) (σ:St) (H F:Hp) (Q:VK),Rl X.K cl H0 F0 ρ σ H F→OutE X.K cl E H0 F H (f ρ) Q→t σ H Q
def XA' (X:Cx)(cl:Nat→Addr)(E:XK)(es:List Expr)(f:Rho→Rs (List D)):Prop :=
 ∃t:TA,PA X es t∧∀(H0 F0:Hp) (ρ:Rho) (σ:St) (H F:Hp) (Q:List V→Hp→Prop),Rl X.K cl H0 F0 ρ σ H F→OutA X.K cl E H0 F H (f ρ) Q→t σ H Q
def XT' (X:Cx)(cl:Nat→Addr)(E:XK)(e:Expr)(f:Rho→Rs Bool):Prop :=
 ∃t:TT,PT X e t∧∀(H0 F0:Hp) (ρ:Rho) (σ:St) (H F:Hp) (Q:Bool→Hp→Prop),Rl X.K cl H0 F0 ρ σ H F→OutB X.K cl E H0 F H (f ρ) Q→t σ H Q
def XW' (X:Cx)(cl:Nat→Addr)(E:XK)(e:Expr)(f:Rho→Rs Bool):Prop :=
 ∃t:TT,PW X e t∧∀(H0 F0:Hp) (ρ:Rho) (σ:St) (H F:Hp) (Q:Bool→Hp→Prop),Rl X.K cl H0 F0 ρ σ H F→OutB X.K cl E H0 F H (f ρ) Q→t σ H Q
def XO' (X:Cx)(cl:Nat→Addr)(E:XK)(e:Option Expr)(f:Rho→Rs (Option Int)):Prop :=
 ∃ t:TO,PO X e t∧∀(H0 F0:Hp) (ρ:Rho) (σ:St) (H F:Hp) (Q:Option Int→Hp→Prop),Rl X.K cl H0 F0 ρ σ H F →
  (match f ρ with | .ok o=>∀H' F',Gr F H F' H'→Q o H' | .ex n=>∀H',Same H0 H'→E (.ref (cl n)) none H' | .no=>False)→t σ H Q
def tDE (K:PySem.W.Frag)(cl:Nat→Addr)(E:XK)(f:Rho→Rs D):TE:=fun σ H Q=>∃H0 F0 ρ F,Rl K cl H0 F0 ρ σ H F∧OutE K cl E H0 F H (f ρ) Q
def tDA (K:PySem.W.Frag)(cl:Nat→Addr)(E:XK)(f:Rho→Rs (List D)):TA:=fun σ H Q=>∃H0 F0 ρ F,Rl K cl H0 F0 ρ σ H F∧OutA K cl E H0 F H (f ρ) Q
def tDB (K:PySem.W.Frag)(cl:Nat→Addr)(E:XK)(f:Rho→Rs Bool):TT:=fun σ H Q=>∃H0 F0 ρ F,Rl K cl H0 F0 ρ σ H F∧OutB K cl E H0 F H (f ρ) Q
def XE (X:Cx)(cl:Nat→Addr)(E:XK)(e:Expr)(f:Rho→Rs D):Prop:=PE X e (tDE X.K cl E f)
def XA (X:Cx)(cl:Nat→Addr)(E:XK)(es:List Expr)(f:Rho→Rs (List D)):Prop:=PA X es (tDA X.K cl E f)
def XT (X:Cx)(cl:Nat→Addr)(E:XK)(e:Expr)(f:Rho→Rs Bool):Prop:=PT X e (tDB X.K cl E f)
def XW (X:Cx)(cl:Nat→Addr)(E:XK)(e:Expr)(f:Rho→Rs Bool):Prop:=PW X e (tDB X.K cl E f)
section
variable {X:Cx}{cl:Nat→Addr}{E:XK}
theorem XE.ex {e:Expr}{f:Rho→Rs D}(h:XE X cl E e f):XE' X cl E e f:=⟨_,h,fun H0 F0 ρ σ H F Q R o=>⟨H0,F0,ρ,F,R,o⟩⟩
theorem XA.ex {e:List Expr}{f:Rho→Rs (List D)}(h:XA X cl E e f):XA' X cl E e f:=⟨_,h,fun H0 F0 ρ σ H F Q R o=>⟨H0,F0,ρ,F,R,o⟩⟩
theorem XT.ex {e:Expr}{f:Rho→Rs Bool}(h:XT X cl E e f):XT' X cl E e f:=⟨_,h,fun H0 F0 ρ σ H F Q R o=>⟨H0,F0,ρ,F,R,o⟩⟩
theorem XW.ex {e:Expr}{f:Rho→Rs Bool}(h:XW X cl E e f):XW' X cl E e f:=⟨_,h,fun H0 F0 ρ σ H F Q R o=>⟨H0,F0,ρ,F,R,o⟩⟩
theorem XE'.out {e:Expr}{f:Rho→Rs D}(h:XE' X cl E e f):XE X cl E e f:=let ⟨_,pt,rt⟩:=h;fun pins s σ H Q I ⟨H0,F0,ρ,F,R,o⟩=>pt pins s σ H Q I (rt H0 F0 ρ σ H F Q R o)
theorem XA'.out {e:List Expr}{f:Rho→Rs (List D)}(h:XA' X cl E e f):XA X cl E e f:=let ⟨_,pt,rt⟩:=h;fun pos pins s σ H Q I ⟨H0,F0,ρ,F,R,o⟩=>pt pos pins s σ H Q I (rt H0 F0 ρ σ H F Q R o)
theorem XT'.out {e:Expr}{f:Rho→Rs Bool}(h:XT' X cl E e f):XT X cl E e f:=let ⟨_,pt,rt⟩:=h;fun pins s σ H Q I ⟨H0,F0,ρ,F,R,o⟩=>pt pins s σ H Q I (rt H0 F0 ρ σ H F Q R o)
theorem XW'.out {e:Expr}{f:Rho→Rs Bool}(h:XW' X cl E e f):XW X cl E e f:=let ⟨_,pt,rt⟩:=h;fun whole pins s σ H Q I ⟨H0,F0,ρ,F,R,o⟩=>pt whole pins s σ H Q I (rt H0 F0 ρ σ H F Q R o)
end
def fC (d:D):Rho→Rs D:=fun _=>.ok d
def fNm (i:Nat):Rho→Rs D:=fun ρ=>match ρ[i]? with|some (.fz d)=>.ok d|_=>.no
def lf:Option D→Rs D
 | some d=>.ok d
 | none=>.no
def f1 (g:D→Option D)(fa:Rho→Rs D):Rho→Rs D:=fun ρ=>(fa ρ).bind fun a=>lf (g a)
def f2 (g:D→D→Option D)(fa fb:Rho→Rs D):Rho→Rs D:=fun ρ=>(fa ρ).bind fun a=>(fb ρ).bind fun b=>lf (g a b)
def zF:Rho→Rs (List D):=fun _=>.ok []
def zf (fa:Rho→Rs D)(fs:Rho→Rs (List D)):Rho→Rs (List D):=fun ρ=>(fa ρ).bind fun a=>(fs ρ).bind fun as=>.ok (a::as)
def fO (g:List D→Option D)(fs:Rho→Rs (List D)):Rho→Rs D:=fun ρ=>(fs ρ).bind fun as=>lf (g as)
def fA (g:List D→Rs D)(fs:Rho→Rs (List D)):Rho→Rs D:=fun ρ=>(fs ρ).bind g
def fIf (ft:Rho→Rs Bool)(fa fb:Rho→Rs D):Rho→Rs D:=fun ρ=>(ft ρ).bind fun b=>if b=true then fa ρ else fb ρ
def tru:D→Rs Bool
 | .bl b=>.ok b
 | _=>.no
def bT (fa:Rho→Rs D):Rho→Rs Bool:=fun ρ=>(fa ρ).bind tru
def zbA (ft:Rho→Rs Bool):Rho→Rs Bool:=fun ρ=>(ft ρ).bind fun b=>.ok (!b)
def bAnd (fa fb:Rho→Rs Bool):Rho→Rs Bool:=fun ρ=>(fa ρ).bind fun b=>if b=true then fb ρ else .ok false
def bOr (fa fb:Rho→Rs Bool):Rho→Rs Bool:=fun ρ=>(fa ρ).bind fun b=>if b=true then .ok true else fb ρ
def zbE (fa fb:Rho→Rs D):Rho→Rs D:=fun ρ=>(fa ρ).bind fun a=>(tru a).bind fun b=>if b=true then fb ρ else .ok (.bl false)
def fOr (fa fb:Rho→Rs D):Rho→Rs D:=fun ρ=>(fa ρ).bind fun a=>(tru a).bind fun b=>if b=true then .ok (.bl true) else fb ρ
def zd5 (fa:Rho→Rs D):Rho→Rs D:=fun ρ=>(fa ρ).bind fun a=>(tru a).bind fun b=>.ok (.bl (!b))
section
variable {K:PySem.W.Frag}{cl:Nat→Addr}{E:XK}{H0 F0 F H F1 H1:Hp}{ρ:Rho}{σ:St}
theorem OutE.grow {r:Rs D}{Q:VK}(h:OutE K cl E H0 F H r Q)(g:Gr F H F1 H1):OutE K cl E H0 F1 H1 r Q:=by
 cases r with
 | ok d=>exact fun v H' F' g' q=>h v H' F' (g.trans g') q
 | ex n=>exact h
 | no=>exact h
theorem OutA.grow {r:Rs (List D)}{Q:List V→Hp→Prop}(h:OutA K cl E H0 F H r Q)(g:Gr F H F1 H1):OutA K cl E H0 F1 H1 r Q:=by
 cases r with
 | ok d=>exact fun v H' F' g' q=>h v H' F' (g.trans g') q
 | ex n=>exact h
 | no=>exact h
theorem OutB.grow {r:Rs Bool}{Q:Bool→Hp→Prop}(h:OutB K cl E H0 F H r Q)(g:Gr F H F1 H1):OutB K cl E H0 F1 H1 r Q:=by
 cases r with
 | ok d=>exact fun H' F' g'=>h H' F' (g.trans g')
 | ex n=>exact h
 | no=>exact h
theorem OutE.fst {r:Rs D}{g:D→Rs D}{Q P:VK}(h:OutE K cl E H0 F H (r.bind g) Q)(k:∀d v H1 F1,Gr F H F1 H1→Dt K cl F1 v d→OutE K cl E H0 F1 H1 (g d) Q→P v H1):OutE K cl E H0 F H r P:=by
 cases r with
 | ok d=>exact fun v H' F' g' q=>k d v H' F' g' q (h.grow g')
 | ex n=>exact h
 | no=>exact h
theorem OutE.fstA {r:Rs D}{g:D→Rs (List D)}{Q:List V→Hp→Prop}{P:VK}(h:OutA K cl E H0 F H (r.bind g) Q)(k:∀d v H1 F1,Gr F H F1 H1→Dt K cl F1 v d→OutA K cl E H0 F1 H1 (g d) Q→P v H1):OutE K cl E H0 F H r P:=by
 cases r with
 | ok d=>exact fun v H' F' g' q=>k d v H' F' g' q (h.grow g')
 | ex n=>exact h
 | no=>exact h
theorem OutA.fst {r:Rs (List D)}{g:List D→Rs D}{Q:VK}{P:List V→Hp→Prop}(h:OutE K cl E H0 F H (r.bind g) Q)(k:∀d v H1 F1,Gr F H F1 H1→Dts K cl F1 v d→OutE K cl E H0 F1 H1 (g d) Q→P v H1):OutA K cl E H0 F H r P:=by
 cases r with
 | ok d=>exact fun v H' F' g' q=>k d v H' F' g' q (h.grow g')
 | ex n=>exact h
 | no=>exact h
theorem OutA.fstA {r:Rs (List D)}{g:List D→Rs (List D)}{Q P:List V→Hp→Prop}(h:OutA K cl E H0 F H (r.bind g) Q)(k:∀d v H1 F1,Gr F H F1 H1→Dts K cl F1 v d→OutA K cl E H0 F1 H1 (g d) Q→P v H1):OutA K cl E H0 F H r P:=by
 cases r with
 | ok d=>exact fun v H' F' g' q=>k d v H' F' g' q (h.grow g')
 | ex n=>exact h
 | no=>exact h
theorem OutE.fstB {r:Rs D}{g:D→Rs Bool}{Q:Bool→Hp→Prop}{P:VK}(h:OutB K cl E H0 F H (r.bind g) Q)(k:∀d v H1 F1,Gr F H F1 H1→Dt K cl F1 v d→OutB K cl E H0 F1 H1 (g d) Q→P v H1):OutE K cl E H0 F H r P:=by
 cases r with
 | ok d=>exact fun v H' F' g' q=>k d v H' F' g' q (h.grow g')
 | ex n=>exact h
 | no=>exact h
theorem OutB.fstB {r:Rs Bool}{g:Bool→Rs Bool}{Q P:Bool→Hp→Prop}(h:OutB K cl E H0 F H (r.bind g) Q)(k:∀b H1 F1,Gr F H F1 H1→OutB K cl E H0 F1 H1 (g b) Q→P b H1):OutB K cl E H0 F H r P:=by
 cases r with
 | ok d=>exact fun H' F' g'=>k d H' F' g' (h.grow g')
 | ex n=>exact h
 | no=>exact h
theorem OutE.okI {d:D}{v:V}{Q:VK}(h:OutE K cl E H0 F H (.ok d) Q)(s:Same F H)(q:Dt K cl F v d):Q v H:=h v H F (Gr.refl s) q
theorem zcS {v:V}{d:D}{b:Bool}(q:Dt K cl F v d)(h:tru d=.ok b):v=.bl b:=by
 cases q <;>simp[tru] at h
 subst h;rfl
end
section
variable {X:Cx}{cl:Nat→Addr}{E:XK}{a b:Expr}{fa fb fc:Rho→Rs D}{pos:Pos}
theorem xe_c {e:Expr}{v:V}{d:D}(h:PE X e (tC v))(q:∀F,Dt X.K cl F v d):XE X cl E e (fC d):=XE'.out ⟨_,h,fun H0 F0 ρ σ H F Q R o=>o.okI R.fh (q F)⟩
theorem zN {i j pos}:XE X cl E (.Constant (.int i) j pos) (fC (.int i)):=xe_c kW fun _=>.int i
theorem zbx {b j pos}:XE X cl E (.Constant (.bool b) j pos) (fC (.bl b)):=xe_c pe_bl fun _=>.bl b
theorem xe_non {j pos}:XE X cl E (.Constant .none j pos) (fC .non):=xe_c pe_non fun _=>.non
theorem xU {x:Str}{j pos}{l:List Nat}(h:x=T l)(ok:TxtOk (T l)):XE X cl E (.Constant (.str x) j pos) (fC (.str l)):=by subst h;exact xe_c pe_str fun _=>.str l ok
theorem zm (i:Nat){e:Expr}(h:PE X e (zcE i)):XE X cl E e (fNm i):=XE'.out ⟨_,h,fun H0 F0 ρ σ H F Q R o=>by
 unfold fNm at o
 split at o
 ·rename_i d e
  obtain⟨v,h1,h2⟩:=R.fz i d e
  exact⟨v,h1,o.okI R.fh h2⟩
 ·exact o.elim⟩
theorem zx:XA X cl E [] zF:=XA'.out ⟨_,uD,fun H0 F0 ρ σ H F Q R o=>o [] H F (Gr.refl R.fh) .nil⟩
theorem zj {e:Expr}{es:List Expr}{fs:Rho→Rs (List D)}(ha:XE X cl E e fa)(hr:XA X cl E es fs)(hs:starEach (e::es) X.env=(false,eval e X.env)::starEach es X.env):XA X cl E (e::es) (zf fa fs):=by
 obtain⟨t,pt,rt⟩:=ha.ex
 obtain⟨u,pu,ru⟩:=hr.ex
 refine XA'.out ⟨_,xK pt pu hs,fun H0 F0 ρ σ H F Q R o=>rt H0 F0 ρ σ H F _ R (OutE.fstA o fun d v H1 F1 g q o1=>?_)⟩
 refine ru H0 F0 ρ σ H1 F1 _ (R.grow g) (OutA.fstA o1 fun ds vs H2 F2 g2 q2 o2=>?_)
 exact o2 (v::vs) H2 F2 (Gr.refl (R.grow (g.trans g2)).fh) (.cons (q.mono g2.ff) q2)
def Op2 (K:PySem.W.Frag)(cl:Nat→Addr)(r:R2)(g:D→D→Option D):Prop :=
 ∀(F H:Hp) (x y:V) (a b d:D) (Q:VK),Same F H→Dt K cl F x a→Dt K cl F y b→g a b=some d→(∀v H' F',Gr F H F' H'→Dt K cl F' v d→Q v H')→r x y H Q
theorem OutE.lf {K:PySem.W.Frag}{cl:Nat→Addr}{E:XK}{H0 F H:Hp}{o:Option D}{Q:VK}(h:OutE K cl E H0 F H (lf o) Q):∃d,o=some d∧∀v H' F',Gr F H F' H'→Dt K cl F' v d→Q v H':=by
 cases o with
 | none=>exact h.elim
 | some d=>exact⟨d,rfl,h⟩
theorem yN {op:Operator}{r:R2}{g:D→D→Option D}(ho:OpR X (binaryOp op) r)(hg:Op2 X.K cl r g)(ha:XE X cl E a fa)(hb:XE X cl E b fb):XE X cl E (.BinOp a op b pos) (f2 g fa fb):=by
 obtain⟨t,pt,rt⟩:=ha.ex
 obtain⟨u,pu,ru⟩:=hb.ex
 refine XE'.out ⟨_,pe_op ho pt pu,fun H0 F0 ρ σ H F Q R o=>rt H0 F0 ρ σ H F _ R (OutE.fst o fun d v H1 F1 g1 q o1=>?_)⟩
 refine ru H0 F0 ρ σ H1 F1 _ (R.grow g1) (OutE.fst o1 fun e w H2 F2 g2 q2 o2=>?_)
 obtain⟨z,hz,k⟩:=o2.lf
 exact hg F2 H2 v w d e z _ (R.grow (g1.trans g2)).fh (q.mono g2.ff) q2 hz k
theorem xe_cmp {op:CmpOp}{r:R2}{g:D→D→Option D}(ho:OpR X (compareOp op) r)(hg:Op2 X.K cl r g)(ha:XE X cl E a fa)(hb:XE X cl E b fb)(hm:behindInMarks op b=false):XE X cl E (.Compare a [op] [b] pos) (f2 g fa fb):=by
 obtain⟨t,pt,rt⟩:=ha.ex
 obtain⟨u,pu,ru⟩:=hb.ex
 refine XE'.out ⟨_,pe_cmpR ho pt pu hm,fun H0 F0 ρ σ H F Q R o=>rt H0 F0 ρ σ H F _ R (OutE.fst o fun d v H1 F1 g1 q o1=>?_)⟩
 refine ru H0 F0 ρ σ H1 F1 _ (R.grow g1) (OutE.fst o1 fun e w H2 F2 g2 q2 o2=>?_)
 obtain⟨z,hz,k⟩:=o2.lf
 exact hg F2 H2 v w d e z _ (R.grow (g1.trans g2)).fh (q.mono g2.ff) q2 hz k
theorem za4 {op:CmpOp}{r:R2}{g:D→D→Option D}(ho:OpR X (compareOp op) r)(hg:Op2 X.K cl r g)(ha:XE X cl E a fa)(hb:XE X cl E b fb)(hm:behindInMarks op b=false):XT X cl E (.Compare a [op] [b] pos) (bT (f2 g fa fb)):=by
 obtain⟨t,pt,rt⟩:=ha.ex
 obtain⟨u,pu,ru⟩:=hb.ex
 refine XT'.out ⟨_,pt_cmpR ho pt pu hm,fun H0 F0 ρ σ H F Q R o=>?_⟩
 have o':OutE X.K cl E H0 F H (f2 g fa fb ρ) fun v H1=>∃k,v=.bl k∧Q k H1:=OutE.fstB o fun d v H1 F1 g1 q o1=>by
  cases e:tru d with
  | ok b=>rw[e] at o1;exact⟨b,zcS q e,o1 H1 F1 (Gr.refl (R.grow g1).fh)⟩
  | ex n=>cases d <;>simp[tru] at e
  | no=>rw[e] at o1;exact o1.elim
 refine rt H0 F0 ρ σ H F _ R (OutE.fst o' fun d v H1 F1 g1 q o1=>?_)
 refine ru H0 F0 ρ σ H1 F1 _ (R.grow g1) (OutE.fst o1 fun e w H2 F2 g2 q2 o2=>?_)
 obtain⟨z,hz,k⟩:=o2.lf
 exact hg F2 H2 v w d e z _ (R.grow (g1.trans g2)).fh (q.mono g2.ff) q2 hz k
theorem OutB.bT {ρ:Rho}{H0 F0 H F:Hp}{σ:St}{Q:Bool→Hp→Prop}(R:Rl X.K cl H0 F0 ρ σ H F)(o:OutB X.K cl E H0 F H (bT fa ρ) Q):OutE X.K cl E H0 F H (fa ρ) fun v H1=>∃k,v=.bl k∧Q k H1:=OutE.fstB o fun d v H1 F1 g1 q o1=>by
  cases e:tru d with
  | ok b=>rw[e] at o1;exact⟨b,zcS q e,o1 H1 F1 (Gr.refl (R.grow g1).fh)⟩
  | ex n=>cases d <;>simp[tru] at e
  | no=>rw[e] at o1;exact o1.elim
theorem jU {e:Expr}(h:XE X cl E e fa)(he:∀whole,isTrue e X.env whole=(do let v ← whole;standAt e.pos;holding [v] (truthy v)):=by intro _;rfl):XT X cl E e (bT fa):=by
 obtain⟨t,pt,rt⟩:=h.ex
 exact XT'.out ⟨_,pt_val pt he,fun H0 F0 ρ σ H F Q R o=>rt H0 F0 ρ σ H F _ R (OutB.bT R o)⟩
theorem zbt {ft:Rho→Rs Bool}(h:XT X cl E a ft):XT X cl E (.UnaryOp .Not a pos) (zbA ft):=by
 obtain⟨t,pt,rt⟩:=h.ex
 exact XT'.out ⟨_,pt_not pt,fun H0 F0 ρ σ H F Q R o=>rt H0 F0 ρ σ H F _ R (OutB.fstB o fun b H1 F1 g o1=>o1 H1 F1 (Gr.refl (R.grow g).fh))⟩
theorem xw_or1 {ft:Rho→Rs Bool}(h:XT X cl E a ft):XW X cl E (.BoolOp .Or [a] pos) ft:=let ⟨t,pt,rt⟩:=h.ex;XW'.out ⟨t,pw_or1 pt,rt⟩
theorem xw_or {rest:List Expr}{ft fu:Rho→Rs Bool}(h:XT X cl E a ft)(k:XW X cl E (.BoolOp .Or (b::rest) pos) fu):XW X cl E (.BoolOp .Or (a::b::rest) pos) (bOr ft fu):=by
 obtain⟨t,pt,rt⟩:=h.ex
 obtain⟨u,pu,ru⟩:=k.ex
 refine XW'.out ⟨_,pw_or pt pu,fun H0 F0 ρ σ H F Q R o=>rt H0 F0 ρ σ H F _ R (OutB.fstB o fun b H1 F1 g o1=>?_)⟩
 cases b with
 | true=>exact o1 H1 F1 (Gr.refl (R.grow g).fh)
 | false=>exact ru H0 F0 ρ σ H1 F1 _ (R.grow g) o1
theorem XW.xt {e:Expr}{ft:Rho→Rs Bool}(h:XW X cl E e ft):XT X cl E e ft:=let ⟨t,pt,rt⟩:=h.ex;XT'.out ⟨t,pt.pt,rt⟩
def isN (neg:Bool):D→Option D
 | .non=>some (.bl (!neg))
 | _=>some (.bl neg)
theorem Dt.isnon {K:PySem.W.Frag}{F:Hp}{v:V}{d:D}(q:Dt K cl F v d):isN false d=some (.bl (decide (v=.non)))∧isN true d=some (.bl (!decide (v=.non))):=by cases q <;>exact⟨rfl,rfl⟩
theorem xe_isN {j pos'}(h:XE X cl E a fa):XE X cl E (.Compare a [.Is] [.Constant .none j pos'] pos) (f1 (isN false) fa):=by
 obtain⟨t,pt,rt⟩:=h.ex
 refine XE'.out ⟨_,pe_cmp (pc_isN pt),fun H0 F0 ρ σ H F Q R o=>rt H0 F0 ρ σ H F _ R (OutE.fst o fun d v H1 F1 g q o1=>?_)⟩
 rw[q.isnon.1] at o1
 exact o1.okI (R.grow g).fh (.bl _)
theorem xt_notN {j pos'}(h:XE X cl E a fa):XT X cl E (.Compare a [.IsNot] [.Constant .none j pos'] pos) (bT (f1 (isN true) fa)):=by
 obtain⟨t,pt,rt⟩:=h.ex
 refine XT'.out ⟨_,pt_cmp (pc_notN pt),fun H0 F0 ρ σ H F Q R o=>rt H0 F0 ρ σ H F _ R (OutE.fst (OutB.bT R o) fun d v H1 F1 g q o1=>?_)⟩
 rw[q.isnon.2] at o1
 exact o1.okI (R.grow g).fh (.bl _)
theorem OutE.tru {H0 F H F1 H1:Hp}{d:D}{v:V}{g:Bool→Rs D}{Q:VK}(q:Dt X.K cl F v d)(o:OutE X.K cl E H0 F H ((tru d).bind g) Q):∃b,v=.bl b∧OutE X.K cl E H0 F H (g b) Q:=by
 cases e:L2.tru d with
 | ok b=>rw[e] at o;exact⟨b,zcS q e,o⟩
 | ex n=>cases d <;>simp[L2.tru] at e
 | no=>rw[e] at o;exact o.elim
theorem zbw {op}(h:XE X cl E a fa):XE X cl E (.BoolOp op [a] pos) fa:=let ⟨t,pt,rt⟩:=h.ex;XE'.out ⟨t,pe_one pt,rt⟩
theorem zb0 {rest:List Expr}(ha:XE X cl E a fa)(hb:XE X cl E (.BoolOp .And (b::rest) pos) fb):XE X cl E (.BoolOp .And (a::b::rest) pos) (zbE fa fb):=by
 obtain⟨t,pt,rt⟩:=ha.ex
 obtain⟨u,pu,ru⟩:=hb.ex
 refine XE'.out ⟨_,pe_and pt pu,fun H0 F0 ρ σ H F Q R o=>rt H0 F0 ρ σ H F _ R (OutE.fst o fun d v H1 F1 g q o1=>?_)⟩
 obtain⟨b,rfl,o2⟩:=OutE.tru (F1:=F1) (H1:=H1) q o1
 refine⟨b,rfl,?_⟩
 cases b with
 | true=>exact ru H0 F0 ρ σ H1 F1 _ (R.grow g) o2
 | false=>exact o2.okI (R.grow g).fh (.bl _)
theorem xe_or {rest:List Expr}(ha:XE X cl E a fa)(hb:XE X cl E (.BoolOp .Or (b::rest) pos) fb):XE X cl E (.BoolOp .Or (a::b::rest) pos) (fOr fa fb):=by
 obtain⟨t,pt,rt⟩:=ha.ex
 obtain⟨u,pu,ru⟩:=hb.ex
 refine XE'.out ⟨_,pe_or pt pu,fun H0 F0 ρ σ H F Q R o=>rt H0 F0 ρ σ H F _ R (OutE.fst o fun d v H1 F1 g q o1=>?_)⟩
 obtain⟨b,rfl,o2⟩:=OutE.tru (F1:=F1) (H1:=H1) q o1
 refine⟨b,rfl,?_⟩
 cases b with
 | true=>exact o2.okI (R.grow g).fh (.bl _)
 | false=>exact ru H0 F0 ρ σ H1 F1 _ (R.grow g) o2
theorem xe_not (ha:XE X cl E a fa):XE X cl E (.UnaryOp .Not a pos) (zd5 fa):=by
 obtain⟨t,pt,rt⟩:=ha.ex
 refine XE'.out ⟨_,pe_not pt,fun H0 F0 ρ σ H F Q R o=>rt H0 F0 ρ σ H F _ R (OutE.fst o fun d v H1 F1 g q o1=>?_)⟩
 obtain⟨b,rfl,o2⟩:=OutE.tru (F1:=F1) (H1:=H1) q o1
 exact⟨b,rfl,o2.okI (R.grow g).fh (.bl _)⟩
def mkT (ds:List D):Option D:=if ds.length≤1000000 then some (.tup ds) else none
def mkL (ds:List D):Option D:=if ds.length≤1000000 then some (.lst ds) else none
theorem sz6 {n:Nat}(h:n≤1000000):n≤sizeLine:=by rw[sizeLine_eq];omega
theorem zdq {es:List Expr}{x1}{fs:Rho→Rs (List D)}(h:XA X cl E es fs):XE X cl E (.Tuple es x1 pos) (fO mkT fs):=by
 obtain⟨t,pt,rt⟩:=h.ex
 refine XE'.out ⟨_,pe_tup pt,fun H0 F0 ρ σ H F Q R o=>rt H0 F0 ρ σ H F _ R (OutA.fst o fun ds vs H1 F1 g q o1=>?_)⟩
 unfold mkT at o1
 split at o1
 ·rename_i hl
  refine⟨sz6 (q.length▸hl),fun p hp=>?_⟩
  have fh:=(R.grow g).fh
  exact o1 _ _ _ (Gr.new fh hp) (.tup (.inl (.inl zM)) (q.mono (Same.upd (fh.free hp))))
 ·exact o1.elim
theorem xe_lst {es:List Expr}{fs:Rho→Rs (List D)}(h:XA X cl E es fs):XE X cl E (.List es pos) (fO mkL fs):=by
 obtain⟨t,pt,rt⟩:=h.ex
 refine XE'.out ⟨_,pe_lst pt,fun H0 F0 ρ σ H F Q R o=>rt H0 F0 ρ σ H F _ R (OutA.fst o fun ds vs H1 F1 g q o1=>?_)⟩
 unfold mkL at o1
 split at o1
 ·rename_i hl
  refine⟨sz6 (q.length▸hl),fun p hp=>?_⟩
  have fh:=(R.grow g).fh
  exact o1 _ _ _ (Gr.new fh hp) (.lst (.inl (.inl zM)) (q.mono (Same.upd (fh.free hp))))
 ·exact o1.elim
def spD (K:PySem.W.Frag)(cl:Nat→Addr)(fn:List D→Rs D)(n:Nat):Sp:=fun vs H Q E=>∃F ds,Same F H∧Dts K cl F vs ds∧vs.length=n∧OutE K cl E H F H (fn ds) Q
def ari (n:Nat)(fn:List D→Rs D):List D→Rs D:=fun ds=>if ds.length=n then fn ds else .no
theorem zK {k:Nat}{f:Addr}{fd:FuncData}{ps:List Str}{fn:List D→Rs D}{n:Nat}{x:Str}{p:Pos}{e:Expr}{es:List Expr}{fs:Rho→Rs (List D)}(G:FnOk X.prog X.w X.K X.mg X.base (CX1 X.prog X.w) k f fd ps (spD X.K cl fn n))(hr:Room k X.A)(hg:Gl X x)(hm:X.mg x=some (.ref f))(hk:PySem.W.keepIn X.K (.ref f)=true)(hb:Binds X.K fd ps [])(hx:vR (CX1 X.prog X.w) X E)
  (ha:XA X cl E (e::es) fs) (he:starEach (e::es) X.env=(false,eval e X.env)::starEach es X.env) (hdb:(x == ("__debug__" : Str))=false:=by decide) (hpl:(backTo pos (starEach es X.env)).any (·.1)=false:=by rfl):XE X cl E (.Call (.Name x p) (e::es) [] pos) (fA (ari n fn) fs):=by
 obtain⟨t,pt,rt⟩:=ha.ex
 refine XE'.out ⟨_,pe_call G hr hg hm hk hb .nil hx pt hdb he hpl,fun H0 F0 ρ σ H F Q R o=>rt H0 F0 ρ σ H F _ R (OutA.fst o fun ds vs H1 F1 g q o1=>?_)⟩
 unfold ari at o1
 split at o1
 ·rename_i hl
  rw[List.append_nil]
  have R1:=R.grow g
  refine⟨F1,ds,R1.fh,q,by rw[q.length,hl],?_⟩
  cases e:fn ds with
  | ok d=>rw[e] at o1;exact o1
  | ex n=>rw[e] at o1;exact fun H' s=>o1 H' (R1.gr.hh.trans s)
  | no=>rw[e] at o1;exact o1
 ·exact o1.elim
end
end L2
namespace L2
open PySem PySem.Spec PyProof.Rows
def D.fl:D→Bool
 | .non=>true
 | .bl _=>true
 | .int _=>true
 | .str _=>true
 | _=>false
def D.toV:D→V
 | .bl b=>.bl b
 | .int i=>.int i
 | .str l=>.str (T l)
 | _=>.non
def uy:D→D→Option D
 | .int i,.int j=>some (.int (i+j))
 | _,_=>none
def subI:D→D→Option D
 | .int i,.int j=>some (.int (i - j))
 | _,_=>none
instance (i:Int):Decidable (Sm i):=inferInstanceAs (Decidable (i.natAbs<2 ^ 4000))
def mulI:D→D→Option D
 | .int i,.int j=>if Sm i∧Sm j then some (.int (i*j)) else none
 | _,_=>none
def modI:D→D→Option D
 | .int i,.int j=>if 0<j then some (.int (i % j)) else none
 | _,_=>none
def zcJ:D→D→Option D
 | .int i,.int j=>if 0<j∧Sm j then some (.int (i / j)) else none
 | _,_=>none
def jD:D→D→Option D
 | .str l,.str m=>if l.length+m.length≤1000000 then some (.str (l++m)) else none
 | _,_=>none
def ltI:D→D→Option D
 | .int i,.int j=>some (.bl (decide (i<j)))
 | _,_=>none
def leI:D→D→Option D
 | .int i,.int j=>some (.bl (decide (i≤j)))
 | _,_=>none
def gtI:D→D→Option D
 | .int i,.int j=>some (.bl (decide (j<i)))
 | _,_=>none
def geI:D→D→Option D
 | .int i,.int j=>some (.bl (decide (j≤i)))
 | _,_=>none
def ltS:D→D→Option D
 | .str l,.str m=>some (.bl (decide (l<m)))
 | _,_=>none
def eqD (neg:Bool)(a b:D):Option D:=if a.pl=true∧b.pl=true∧a.py.depth≤60 then some (.bl (if neg then !PyData.eqv a.py b.py else PyData.eqv a.py b.py)) else none
def inQ (neg:Bool)(x:D)(ds:List D):Option D:=if x.fl=true∧ds.all D.fl=true then some (.bl (if neg then !inV x.toV (ds.map D.toV) else inV x.toV (ds.map D.toV))) else none
def inD (neg:Bool)(x:D):D→Option D
 | .lst ds=>inQ neg x ds
 | .tup ds=>inQ neg x ds
 | _=>none
def inC (neg:Bool):D→D→Option D
 | .str [c],.str l=>some (.bl (if neg then !decide (c∈l) else decide (c∈l)))
 | _,_=>none
def ixD:D→D→Option D
 | .lst ds,.int i=>atI ds i
 | .tup ds,.int i=>atI ds i
 | .str l,.int i=>(atI l i).map fun c=>.str [c]
 | _,_=>none
def zbF {α:Type}(xs:List α)(lo hi:Option Int):List α:=(xs.drop (HT.sIx xs.length 0 lo)).take (HT.sIx xs.length xs.length hi - HT.sIx xs.length 0 lo)
def slD:D→Option Int→Option Int→Option D
 | .lst ds,lo,hi=>some (.lst (zbF ds lo hi))
 | .tup ds,lo,hi=>some (.tup (zbF ds lo hi))
 | .str l,lo,hi=>some (.str (zbF l lo hi))
 | _,_,_=>none
section
variable {K:PySem.W.Frag}{cl:Nat→Addr}{F H:Hp}
theorem Dt.flat {v:V}{d:D}(q:Dt K cl F v d)(h:d.fl=true):v=d.toV∧zbR v=true:=by
 cases q <;>first|exact⟨rfl,rfl⟩|(simp[D.fl] at h)
theorem Dts.flat:∀{vs:List V}{ds:List D},Dts K cl F vs ds→ds.all D.fl=true→vs=ds.map D.toV∧vs.all zbR=true
 | _,_,.nil,_=>⟨rfl,rfl⟩
 | _,_,.cons q r,h=>by
  rw[List.all_cons,Bool.and_eq_true] at h
  obtain⟨e1,e2⟩:=q.flat h.1
  obtain⟨e3,e4⟩:=Dts.flat r h.2
  exact⟨by rw[List.map_cons,← e1,← e3],by rw[List.all_cons,e2,e4];rfl⟩
def I2 (f:Int→Int→Option D):D→D→Option D
 | .int i,.int j=>f i j
 | _,_=>none
theorem I2_inv {f:Int→Int→Option D}{a b d:D}(e:I2 f a b=some d):∃i j,a=.int i∧b=.int j∧f i j=some d:=by
 cases a with
 | int i =>
  cases b with
  | int j=>exact⟨i,j,rfl,rfl,e⟩
  | _=>cases e
 | _=>cases e
def S2 (f:List Nat→List Nat→Option D):D→D→Option D
 | .str i,.str j=>f i j
 | _,_=>none
theorem S2_inv {f:List Nat→List Nat→Option D}{a b d:D}(e:S2 f a b=some d):∃i j,a=.str i∧b=.str j∧f i j=some d:=by
 cases a with
 | str i =>
  cases b with
  | str j=>exact⟨i,j,rfl,rfl,e⟩
  | _=>cases e
 | _=>cases e
theorem Dt.intE {v:V}{i:Int}(q:Dt K cl F v (.int i)):v=.int i:=by cases q;rfl
theorem Dt.strE {v:V}{l:List Nat}(q:Dt K cl F v (.str l)):v=.str (T l)∧TxtOk (T l):=by cases q with|str _ ok=>exact⟨rfl,ok⟩
theorem o_I0 {f:Int→Int→D}{r:Int→Int→V}(hf:∀{F:Hp} i j,Dt K cl F (r i j) (f i j)):Op2 K cl (rI0 r) (I2 fun i j=>some (f i j)):=fun F H x y a b d Q s qa qb e k=>by
 obtain⟨i,j,rfl,rfl,e1⟩:=I2_inv e
 obtain rfl:=qa.intE
 obtain rfl:=qb.intE
 obtain rfl:=Option.some.inj e1
 exact⟨_,_,rfl,rfl,k _ _ _ (Gr.refl s) (hf i j)⟩
theorem o_I1 {c:Int→Int→Prop} [∀i j,Decidable (c i j)]{f:Int→Int→Int}:Op2 K cl (rI c fun i j=>.int (f i j)) (I2 fun i j=>if c i j then some (.int (f i j)) else none):=fun F H x y a b d Q s qa qb e k=>by
 obtain⟨i,j,rfl,rfl,e1⟩:=I2_inv e
 obtain rfl:=qa.intE
 obtain rfl:=qb.intE
 by_cases h:c i j
 ·rw[if_pos h] at e1
  obtain rfl:=Option.some.inj e1
  exact⟨_,_,rfl,rfl,h,k _ _ _ (Gr.refl s) (.int _)⟩
 ·rw[if_neg h] at e1;cases e1
theorem uF:Op2 K cl (rI0 fun i j=>.int (i+j)) uy:=o_I0 fun _ _=>.int _
theorem zbo:Op2 K cl (rI (fun i j=>Sm i∧Sm j) fun i j=>.int (i*j)) mulI:=o_I1
theorem zat:Op2 K cl (rI (fun _ j=>0<j) fun i j=>.int (i % j)) modI:=o_I1
theorem zbz:Op2 K cl (rI (fun _ j=>0<j∧Sm j) fun i j=>.int (i / j)) zcJ:=o_I1
theorem jc:Op2 K cl (fun x y H Q=>∃l m,x=.str (T l)∧y=.str (T m)∧l.length+m.length≤1000000∧Q (.str (T (l++m))) H) jD:=fun F H x y a b d Q s qa qb e k=>by
 obtain⟨l,m,rfl,rfl,e1⟩:=S2_inv (f:=fun l m=>if l.length+m.length≤1000000 then some (.str (l++m)) else none) e
 obtain⟨rfl,ok⟩:=qa.strE
 obtain⟨rfl,ok2⟩:=qb.strE
 split at e1
 ·rename_i h
  obtain rfl:=Option.some.inj e1
  refine⟨_,_,rfl,rfl,h,k _ _ _ (Gr.refl s) (.str _ ?_)⟩
  rw[← T_app]
  exact TxtOk.app ok ok2 (by rw[zaC,zaC];exact h)
 ·cases e1
theorem o_ltI:Op2 K cl (rI0 fun i j=>.bl (decide (i<j))) ltI:=o_I0 fun _ _=>.bl _
theorem o_leI:Op2 K cl (rI0 fun i j=>.bl (decide (i≤j))) leI:=o_I0 fun _ _=>.bl _
theorem o_ltS:Op2 K cl (fun x y H Q=>∃i j,x=.str i∧y=.str j∧Q (.bl (decide (i.cps.toList<j.cps.toList))) H) ltS:=fun F H x y a b d Q s qa qb e k=>by
 obtain⟨l,m,rfl,rfl,e1⟩:=S2_inv (f:=fun l m=>some (.bl (decide (l<m)))) e
 obtain⟨rfl,ok⟩:=qa.strE
 obtain⟨rfl,ok2⟩:=qb.strE
 obtain rfl:=Option.some.inj e1
 refine⟨_,_,rfl,rfl,?_⟩
 rw[zbD,zbD]
 exact k _ _ _ (Gr.refl s) (.bl _)
theorem o_eq:Op2 K cl (rEqD K) (eqD false):=fun F H x y a b d Q s qa qb e k=>by
 unfold eqD at e
 split at e
 ·rename_i h
  obtain rfl:=Option.some.inj e
  exact⟨_,_,(qa.is h.1).mono s,(qb.is h.2.1).mono s,h.2.2,k _ _ _ (Gr.refl s) (.bl _)⟩
 ·cases e
theorem o_ne:Op2 K cl (rNeD K) (eqD true):=fun F H x y a b d Q s qa qb e k=>by
 unfold eqD at e
 split at e
 ·rename_i h
  obtain rfl:=Option.some.inj e
  exact⟨_,_,(qa.is h.1).mono s,(qb.is h.2.1).mono s,h.2.2,k _ _ _ (Gr.refl s) (.bl _)⟩
 ·cases e
theorem inQ_run {neg:Bool}{x:V}{a d:D}{p:Addr}{vs:List V}{ds:List D}{Q:VK}(s:Same F H)(qa:Dt K cl F x a)(sq:SqL K H p vs∨SqT K H p vs)(dq:Dts K cl F vs ds)(e:inQ neg a ds=some d)(k:∀v H' F',Gr F H F' H'→Dt K cl F' v d→Q v H'):rIn K neg x (.ref p) H Q:=by
 unfold inQ at e
 split at e
 ·rename_i h
  obtain rfl:=Option.some.inj e
  obtain⟨e1,e2⟩:=qa.flat h.1
  obtain⟨e3,e4⟩:=dq.flat h.2
  refine⟨p,vs,rfl,sq,e2,e4,?_⟩
  rw[e1,e3]
  exact k _ _ _ (Gr.refl s) (.bl _)
 ·cases e
theorem o_in {neg:Bool}:Op2 K cl (rIn K neg) (inD neg):=fun F H x y a b d Q s qa qb e k=>by
 cases qb with
 | lst sq dq=>exact inQ_run s qa (.inl (s.seq sq)) dq e k
 | tup sq dq=>exact inQ_run s qa (.inr (s.seqT sq)) dq e k
 | _=>cases e
theorem inC_inv {neg:Bool}{a b d:D}(e:inC neg a b=some d):∃c l,a=.str [c]∧b=.str l∧d=.bl (if neg then !decide (c∈l) else decide (c∈l)):=by
 cases a with
 | str l =>
  match l,e with
  | [c],e =>
   cases b with
   | str m=>exact⟨c,m,rfl,rfl,(Option.some.inj e).symm⟩
   | _=>cases e
 | _=>cases e
theorem o_inC:Op2 K cl rInC (inC false):=fun F H x y a b d Q s qa qb e k=>by
 obtain⟨c,l,rfl,rfl,rfl⟩:=inC_inv e
 obtain⟨rfl,_⟩:=qa.strE
 obtain⟨rfl,_⟩:=qb.strE
 exact⟨c,l,rfl,rfl,k _ _ _ (Gr.refl s) (.bl _)⟩
theorem Dts.at {vs:List V}{ds:List D}{i:Int}{d:D}(q:Dts K cl F vs ds)(e:atI ds i=some d):∃v,atI vs i=some v∧Dt K cl F v d:=by
 unfold atI at e ⊢
 rw[q.length]
 cases h:ixN ds.length i with
 | none=>rw[h] at e;cases e
 | some j =>
  rw[h] at e
  exact q.get' e
theorem txt_sub {l m:List Nat}(ok:TxtOk (T l))(h:∀c∈m,c∈l)(hl:m.length≤1000000):TxtOk (T m):=by
 refine jL (fun c hc=>?_) hl
 have a:(T l).cps.all (· < 0x110000)=true:=ok.1
 simp only[T,List.all_toArray,List.all_eq_true,decide_eq_true_eq] at a
 exact a c (h c hc)
theorem txt1 {l:List Nat}{c:Nat}(ok:TxtOk (T l))(h:c∈l):TxtOk (T [c]):=txt_sub ok (fun d hd=>by rw[List.mem_singleton.mp hd];exact h) (Nat.le_add_left 1 999999)
theorem ixD_int {a b d:D}(e:ixD a b=some d):∃i,b=.int i:=by
 cases b with
 | int i=>exact⟨i,rfl⟩
 | _=>cases a <;>cases e
theorem o_ix:Op2 K cl (rIx K) ixD:=fun F H x y a b d Q s qa qb e k=>by
 obtain⟨i,rfl⟩:=ixD_int e
 obtain rfl:=qb.intE
 ·cases qa with
  | lst sq dq =>
   obtain⟨v,h1,h2⟩:=dq.at e
   exact .inl ⟨_,_,_,_,rfl,rfl,s.seq sq,h1,k _ _ _ (Gr.refl s) h2⟩
  | tup sq dq =>
   obtain⟨v,h1,h2⟩:=dq.at e
   exact .inr (.inl ⟨_,_,_,_,rfl,rfl,s.seqT sq,h1,k _ _ _ (Gr.refl s) h2⟩)
  | str l ok =>
   have e':(atI l i).map (fun c=>D.str [c])=some d:=e
   cases h:atI l i with
   | none=>rw[h] at e';cases e'
   | some c =>
    rw[h] at e'
    obtain rfl:=Option.some.inj e'
    refine .inr (.inr ⟨T l,i,c,rfl,rfl,sz6 ok.2,by rw[zbD];exact h,k _ _ _ (Gr.refl s) (.str [c] (txt1 ok ?_))⟩)
    unfold atI at h
    cases h2:ixN l.length i with
    | none=>rw[h2] at h;cases h
    | some j=>rw[h2] at h;exact List.mem_of_getElem? h
  | _=>cases e
end
end L2
namespace L2
open PySem PySem.Spec PyProof.Rows
def tDS (K:PySem.W.Frag)(cl:Nat→Addr)(E:XK)(g:Rho→Out):TS:=fun Dn σ H=>∃H0 F0 ρ F,Rl K cl H0 F0 ρ σ H F∧OutS K cl E H0 F0 F (g ρ) Dn
def XS (X:Cx)(cl:Nat→Addr)(E:XK)(st:Stmt)(g:Rho→Out):Prop:=PS X st (tDS X.K cl E g)
def XSs (X:Cx)(cl:Nat→Addr)(E:XK)(st:List Stmt)(g:Rho→Out):Prop:=PSs X st (tDS X.K cl E g)
def sNx:Rho→Out:=fun ρ=>.nx ρ
def yD (g h:Rho→Out):Rho→Out:=fun ρ=>match g ρ with | .nx ρ'=>h ρ'|o=>o
def xQ (f:Rho→Rs D):Rho→Out:=fun ρ=>match f ρ with | .ok d=>.rt d | .ex n=>.ex n | .no=>.no
def uc (f:Rho→Rs D):Rho→Out:=fun ρ=>match f ρ with | .ok _=>.nx ρ | .ex n=>.ex n | .no=>.no
def xX (i:Nat)(f:Rho→Rs D):Rho→Out:=fun ρ=>match f ρ with | .ok d=>.nx (ρ.set i (.fz d)) | .ex n=>.ex n | .no=>.no
def sIf (ft:Rho→Rs Bool)(g h:Rho→Out):Rho→Out:=fun ρ=>match ft ρ with | .ok true=>g ρ | .ok false=>h ρ | .ex n=>.ex n | .no=>.no
def zaz (i j:Nat)(f:Rho→Rs D):Rho→Out:=fun ρ=>match f ρ with | .ok (.tup [a,b])=>.nx ((ρ.set i (.fz a)).set j (.fz b)) | .ok _=>.no | .ex n=>.ex n | .no=>.no
def zbG (i:Nat)(g:Rho→Out):Rho→Out:=fun ρ=>match ρ[i]? with|some (.ow ds)=>g (ρ.set i (.fz (.lst ds)))|_=>.no
def jT (g:Rho→Out):Rho→Out:=fun ρ=>match g ρ with | .ex _=>.no|o=>o
def forD (i:Nat)(g:Rho→Out):List D→Rho→Out
 | [],ρ=>.nx ρ
 | d::ds,ρ=>match g (ρ.set i (.fz d)) with | .nx ρ'=>forD i g ds ρ' | .ct ρ'=>forD i g ds ρ' | .bk ρ'=>.nx ρ'|o=>o
def kO (i:Nat)(fi:Rho→Rs (List D))(g:Rho→Out):Rho→Out:=fun ρ=>match fi ρ with | .ok ds=>forD i g ds ρ | .ex n=>.ex n | .no=>.no
def whD (ft:Rho→Rs Bool)(g:Rho→Out):Nat→Rho→Out
 | 0,_=>.no
 | n+1,ρ=>match ft ρ with
  | .ok true=>(match g ρ with | .nx ρ'=>whD ft g n ρ' | .ct ρ'=>whD ft g n ρ' | .bk ρ'=>.nx ρ'|o=>o)
  | .ok false=>.nx ρ
  | .ex n=>.ex n
  | .no=>.no
def sWh (n:Nat)(ft:Rho→Rs Bool)(g:Rho→Out):Rho→Out:=whD ft g n
def owL (ρ:Rho)(i:Nat):Option (List D):=match ρ[i]? with|some (.ow ds)=>some ds|_=>none
theorem zcM {ρ:Rho}{i:Nat}{ds:List D}(h:owL ρ i=some ds):ρ[i]? = some (.ow ds):=by
 unfold owL at h
 split at h
 ·rename_i e;rw[e,Option.some.inj h]
 ·cases h
def zbB (i:Nat)(f:Rho→Rs D):Rho→Out:=fun ρ=>match owL ρ i with
 | some ds=>(match f ρ with | .ok d=>if ds.length<1000000 then .nx (ρ.set i (.ow (ds++[d]))) else .no | .ex n=>.ex n | .no=>.no)
 | none=>.no
section
variable {K:PySem.W.Frag}{cl:Nat→Addr}{E:XK}{H0 F0 F F1:Hp}
theorem OutS.grow {o:Out}{Dn:Ends}(h:OutS K cl E H0 F0 F o Dn)(s:Same F F1):OutS K cl E H0 F0 F1 o Dn:=by
 cases o with
 | nx ρ=>exact fun σ H F' R q=>h σ H F' R (s.trans q)
 | bk ρ=>exact fun σ H F' R q=>h σ H F' R (s.trans q)
 | ct ρ=>exact fun σ H F' R q=>h σ H F' R (s.trans q)
 | rt d=>exact h
 | ex n=>exact h
 | no=>exact h
end
section
variable {X:Cx}{cl:Nat→Addr}{E:XK}{st:Stmt}{rest:List Stmt}{g h:Rho→Out}{f:Rho→Rs D}{e:Expr}{pos:Pos}
def XS' (X:Cx)(cl:Nat→Addr)(E:XK)(st:Stmt)(g:Rho→Out):Prop:=∃t:TS,PS X st t∧∀(H0 F0:Hp) (ρ:Rho) (σ:St) (H F:Hp) (Dn:Ends),Rl X.K cl H0 F0 ρ σ H F→OutS X.K cl E H0 F0 F (g ρ) Dn→t Dn σ H
def XSs' (X:Cx)(cl:Nat→Addr)(E:XK)(st:List Stmt)(g:Rho→Out):Prop:=∃t:TS,PSs X st t∧∀(H0 F0:Hp) (ρ:Rho) (σ:St) (H F:Hp) (Dn:Ends),Rl X.K cl H0 F0 ρ σ H F→OutS X.K cl E H0 F0 F (g ρ) Dn→t Dn σ H
theorem XS.ex (h:XS X cl E st g):XS' X cl E st g:=⟨_,h,fun H0 F0 ρ σ H F Dn R o=>⟨H0,F0,ρ,F,R,o⟩⟩
theorem XSs.ex (h:XSs X cl E rest g):XSs' X cl E rest g:=⟨_,h,fun H0 F0 ρ σ H F Dn R o=>⟨H0,F0,ρ,F,R,o⟩⟩
theorem XS'.out (h:XS' X cl E st g):XS X cl E st g:=let ⟨_,pt,rt⟩:=h;fun pins s σ H Dn I ⟨H0,F0,ρ,F,R,o⟩=>pt pins s σ H Dn I (rt H0 F0 ρ σ H F Dn R o)
theorem XSs'.out (h:XSs' X cl E rest g):XSs X cl E rest g:=let ⟨_,pt,rt⟩:=h;fun pins s σ H Dn I ⟨H0,F0,ρ,F,R,o⟩=>pt pins s σ H Dn I (rt H0 F0 ρ σ H F Dn R o)
theorem w5:XSs X cl E [] sNx:=XSs'.out ⟨_,pss_nil,fun H0 F0 ρ σ H F Dn R o=>o σ H F R (Same.refl _)⟩
theorem zE (h:XS X cl E st g):XSs X cl E [st] g:=let ⟨t,pt,rt⟩:=h.ex;XSs'.out ⟨t,zcP pt,rt⟩
theorem zB (h1:XS X cl E st g)(h2:XSs X cl E rest h):XSs X cl E (st::rest) (yD g h):=by
 obtain⟨t,pt,rt⟩:=h1.ex
 obtain⟨u,pu,ru⟩:=h2.ex
 refine XSs'.out ⟨_,j4 pt pu,fun H0 F0 ρ σ H F Dn R o=>rt H0 F0 ρ σ H F _ R ?_⟩
 unfold yD at o
 cases e:g ρ with
 | nx ρ'=>rw[e] at o;exact fun σ' H' F' R' s=>ru H0 F0 ρ' σ' H' F' Dn R' (o.grow s)
 | bk ρ'=>rw[e] at o;exact o
 | ct ρ'=>rw[e] at o;exact o
 | rt d=>rw[e] at o;exact o
 | ex n=>rw[e] at o;exact o
 | no=>rw[e] at o;exact o
theorem yc (h:XE X cl E e f):XS X cl E (.Return (some e) pos) (xQ f):=by
 obtain⟨t,pt,rt⟩:=h.ex
 refine XS'.out ⟨_,ps_ret pt,fun H0 F0 ρ σ H F Dn R o=>rt H0 F0 ρ σ H F _ R ?_⟩
 unfold xQ at o
 cases e:f ρ with
 | ok d=>rw[e] at o;exact fun v H' F' gg q=>o v H' F' (R.gr.trans gg) q
 | ex n=>rw[e] at o;exact o
 | no=>rw[e] at o;exact o
theorem zaW (h:XE X cl E e f)(hs:swapsWith e none pos.line X.env=pure false:=by rfl):XS X cl E (.Expr e pos) (uc f):=by
 obtain⟨t,pt,rt⟩:=h.ex
 refine XS'.out ⟨_,zcs pt hs,fun H0 F0 ρ σ H F Dn R o=>rt H0 F0 ρ σ H F _ R ?_⟩
 unfold uc at o
 cases e:f ρ with
 | ok d=>rw[e] at o;exact fun v H' F' gg q=>o σ H' F' (R.grow gg) gg.ff
 | ex n=>rw[e] at o;exact o
 | no=>rw[e] at o;exact o
theorem xu {i:Nat}{x:Str}{pos':Pos}(hN:X.N.Nodup)(hi:X.N[i]? = some x)(hx:Loc X.env.scope x)(he:XE X cl E e f)(hs:swapsWith e (some (.Name x pos')) pos.line X.env=pure false:=by rfl)(hf:X.fn x=true∨X.env.scope.names.lookup x=some .local:=by first|exact .inl rfl|exact .inr rfl|assumption) :
  XS X cl E (.Assign [.Name x pos'] e pos) (xX i f):=by
 obtain⟨t,pt,rt⟩:=he.ex
 refine XS'.out ⟨_,zb5 hN hi hx pt hs hf,fun H0 F0 ρ σ H F Dn R o=>rt H0 F0 ρ σ H F _ R ?_⟩
 unfold xX at o
 cases e:f ρ with
 | ok d=>rw[e] at o;exact fun v H' F' gg q=>o _ H' F' ((R.grow gg).set q) gg.ff
 | ex n=>rw[e] at o;exact o
 | no=>rw[e] at o;exact o
theorem zaB {c:Expr}{a b:List Stmt}{ft:Rho→Rs Bool}(hc:XT X cl E c ft)(ha:XSs X cl E a g)(hb:XSs X cl E b h):XS X cl E (.If c a b pos) (sIf ft g h):=by
 obtain⟨t,pt,rt⟩:=hc.ex
 obtain⟨u,pu,ru⟩:=ha.ex
 obtain⟨w,pw,rw'⟩:=hb.ex
 refine XS'.out ⟨_,ps_if pt pu pw,fun H0 F0 ρ σ H F Dn R o=>rt H0 F0 ρ σ H F _ R ?_⟩
 unfold sIf at o
 cases e:ft ρ with
 | ok b =>
  rw[e] at o
  intro H' F' gg
  cases b with
  | true=>exact ru H0 F0 ρ σ H' F' Dn (R.grow gg) (o.grow gg.ff)
  | false=>exact rw' H0 F0 ρ σ H' F' Dn (R.grow gg) (o.grow gg.ff)
 | ex n=>rw[e] at o;exact o
 | no=>rw[e] at o;exact o
theorem zaq (h:XS X.nox cl E0 st g):XS X cl E st (jT g):=by
 obtain⟨t,pt,rt⟩:=h.ex
 refine XS'.out ⟨_,pt.nox,fun H0 F0 ρ σ H F Dn R o=>rt H0 F0 ρ σ H F _ R ?_⟩
 unfold jT at o
 cases e:g ρ with
 | nx ρ'=>rw[e] at o;exact o
 | bk ρ'=>rw[e] at o;exact o
 | ct ρ'=>rw[e] at o;exact o
 | rt d=>rw[e] at o;exact o
 | ex n=>rw[e] at o;exact o.elim
 | no=>rw[e] at o;exact o
theorem xs_ice {i:Nat}(h:XS X cl E st g):XS X cl E st (zbG i g):=by
 obtain⟨t,pt,rt⟩:=h.ex
 refine XS'.out ⟨_,pt,fun H0 F0 ρ σ H F Dn R o=>?_⟩
 unfold zbG at o
 split at o
 ·rename_i ds e
  obtain⟨F',s,R'⟩:=R.ice e
  exact rt H0 F0 _ σ H F' Dn R' (o.grow s)
 ·exact o.elim
theorem xs_while {c:Expr}{body:List Stmt}{ft:Rho→Rs Bool}(n:Nat)(hp:PassesOwn (model X.prog X.w) X.A X.env X.xe)(hc:XT X cl E c ft)(hb:XSs X cl E body g):XS X cl E (.While c body [] pos) (sWh n ft g):=by
 obtain⟨t,pt,rt⟩:=hc.ex
 obtain⟨u,pu,ru⟩:=hb.ex
 refine XS'.out ⟨_,ps_while hp pt pu,fun H0 F0 ρ σ H F Dn R o=>?_⟩
 refine⟨fun m σ H=>∃ρ F',Rl X.K cl H0 F0 ρ σ H F'∧OutS X.K cl E H0 F0 F' (whD ft g m ρ) Dn,⟨n,ρ,F,R,o⟩,?_⟩
 rintro m σ1 H1 ⟨ρ1,F1,R1,o1⟩
 cases m with
 | zero=>exact o1.elim
 | succ m =>
  refine rt H0 F0 ρ1 σ1 H1 F1 _ R1 ?_
  unfold whD at o1
  cases e:ft ρ1 with
  | ok b =>
   rw[e] at o1
   intro H2 F2 gg
   have R2:=R1.grow gg
   cases b with
   | false=>exact o1 σ1 H2 F2 R2 gg.ff
   | true =>
    refine⟨fun σ H=>∃ρ F',Rl X.K cl H0 F0 ρ σ H F'∧OutS X.K cl E H0 F0 F' (whD ft g m ρ) Dn,fun σ' H' p=>⟨m,Nat.lt_succ_self _,p⟩,ru H0 F0 ρ1 σ1 H2 F2 _ R2 ?_⟩
    have o2:=o1.grow gg.ff
    cases e2:g ρ1 with
    | nx ρ'=>simp only[e2] at o2;exact fun σ' H' F' R' s=>⟨ρ',F',R',o2.grow s⟩
    | ct ρ'=>simp only[e2] at o2;exact fun σ' H' F' R' s=>⟨ρ',F',R',o2.grow s⟩
    | bk ρ'=>simp only[e2] at o2;exact o2
    | rt d=>simp only[e2] at o2;exact o2
    | ex n=>simp only[e2] at o2;exact o2
    | no=>simp only[e2] at o2;exact o2
  | ex n=>rw[e] at o1;exact o1
  | no=>rw[e] at o1;exact o1
def OutI (K:PySem.W.Frag)(cl:Nat→Addr)(E:XK)(H0 F H:Hp)(r:Rs (List D))(Q:It→Hp→Prop):Prop :=
 match r with
 | .ok ds=>∀J G vs H' F',Gr F H F' H'→Wlk J G vs→(∀H'',Same F' H''→G H'')→Dts K cl F' vs ds→Q J H'
 | .ex n=>∀H',Same H0 H'→E (.ref (cl n)) none H'
 | .no=>False
def tDI (K:PySem.W.Frag)(cl:Nat→Addr)(E:XK)(f:Rho→Rs (List D)):TI:=fun σ H Q=>∃H0 F0 ρ F,Rl K cl H0 F0 ρ σ H F∧OutI K cl E H0 F H (f ρ) Q
def XI (X:Cx)(cl:Nat→Addr)(E:XK)(tg e:Expr)(f:Rho→Rs (List D)):Prop:=PI X tg e (tDI X.K cl E f)
theorem XI.mk {tg:Expr}{fi:Rho→Rs (List D)}{t:TI}(pt:PI X tg e t)(rt:∀(H0 F0:Hp) (ρ:Rho) (σ:St) (H F:Hp) (Q:It→Hp→Prop),Rl X.K cl H0 F0 ρ σ H F→OutI X.K cl E H0 F H (fi ρ) Q→t σ H Q):XI X cl E tg e fi :=
 fun pins s σ H Q I ⟨H0,F0,ρ,F,R,o⟩=>pt pins s σ H Q I (rt H0 F0 ρ σ H F Q R o)
def lsD:D→Option (List D)
 | .lst ds=>some ds
 | _=>none
def tpD:D→Option (List D)
 | .tup ds=>some ds
 | _=>none
def sgD:D→Option (List D)
 | .str l=>some (l.map fun c=>.str [c])
 | _=>none
def fI (g:D→Option (List D))(f:Rho→Rs D):Rho→Rs (List D):=fun ρ=>(f ρ).bind fun d=>match g d with|some ds=>.ok ds|none=>.no
theorem OutI.fst {K:PySem.W.Frag}{H0 F H:Hp}{r:Rs D}{k:D→Rs (List D)}{Q:It→Hp→Prop}{P:VK}(h:OutI K cl E H0 F H (r.bind k) Q)(z:∀d v H1 F1,Gr F H F1 H1→Dt K cl F1 v d→OutI K cl E H0 F1 H1 (k d) Q→P v H1):OutE K cl E H0 F H r P:=by
 cases r with
 | ok d =>
  refine fun v H' F' g' q=>z d v H' F' g' q ?_
  have h':OutI K cl E H0 F H (k d) Q:=h
  cases e:k d with
  | ok ds=>rw[e] at h';exact fun J G vs H2 F2 g2=>h' J G vs H2 F2 (g'.trans g2)
  | ex n=>rw[e] at h';exact h'
  | no=>rw[e] at h';exact h'
 | ex n=>exact h
 | no=>exact h
theorem zak {tg:Expr}(h:XE X cl E e f):XI X cl E tg e (fI lsD f):=by
 obtain⟨t,pt,rt⟩:=h.ex
 refine XI.mk (pi_list pt) fun H0 F0 ρ σ H F Q R o=>rt H0 F0 ρ σ H F _ R (OutI.fst o fun d v H1 F1 g q o1=>?_)
 cases q with
 | lst sq dq =>
  have fh:=(R.grow g).fh
  exact⟨_,rfl,⟨_,fh.seq sq⟩,o1 _ _ _ H1 F1 (Gr.refl fh) wlk_list (fun H'' s=>s.seq sq) dq⟩
 | _=>exact o1.elim
theorem xi_tup {tg:Expr}(h:XE X cl E e f):XI X cl E tg e (fI tpD f):=by
 obtain⟨t,pt,rt⟩:=h.ex
 refine XI.mk (pi_tup pt) fun H0 F0 ρ σ H F Q R o=>rt H0 F0 ρ σ H F _ R (OutI.fst o fun d v H1 F1 g q o1=>?_)
 cases q with
 | tup sq dq =>
  have fh:=(R.grow g).fh
  exact⟨_,rfl,⟨_,fh.seqT sq⟩,o1 _ _ _ H1 F1 (Gr.refl fh) wlk_tup (fun H'' s=>s.seqT sq) dq⟩
 | _=>exact o1.elim
theorem zdh {K:PySem.W.Frag}{F:Hp}:∀{l:List Nat},(∀c∈l,TxtOk (T [c]))→Dts K cl F (l.map fun c=>V.str (T [c])) (l.map fun c=>D.str [c])
 | [],_=>.nil
 | c::l,h=>.cons (.str [c] (h c (.head _))) (zdh fun d hd=>h d (.tail _ hd))
theorem xi_str {tg:Expr}(h:XE X cl E e f):XI X cl E tg e (fI sgD f):=by
 obtain⟨t,pt,rt⟩:=h.ex
 refine XI.mk (pi_str pt) fun H0 F0 ρ σ H F Q R o=>rt H0 F0 ρ σ H F _ R (OutI.fst o fun d v H1 F1 g q o1=>?_)
 cases q with
 | str l ok =>
  have fh:=(R.grow g).fh
  have w:=wlk_str (x:=T l) (G:=fun _=>True)
  rw[zbD] at w
  exact⟨_,rfl,o1 _ _ _ H1 F1 (Gr.refl fh) w (fun _ _=>trivial) (zdh fun c hc=>txt1 ok hc)⟩
 | _=>exact o1.elim
def zdT:List D→Option (List D)
 | [.int j]=>if -(2 ^ 62)≤j∧j<2 ^ 62 then some ((List.range j.toNat).map fun(k:Nat)=>.int (k:Int)) else none
 | _=>none
def rng3:List D→Option (List D)
 | [.int i,.int j,.int c]=>if 0≤i∧i≤j∧j<2 ^ 20∧0<c∧c<2 ^ 20 then some ((List.range ((j - i+c - 1) / c).toNat).map fun(k:Nat)=>.int (i+(k:Int)*c)) else none
 | _=>none
def fR (g:List D→Option (List D))(fs:Rho→Rs (List D)):Rho→Rs (List D):=fun ρ=>(fs ρ).bind fun ds=>match g ds with|some es=>.ok es|none=>.no
theorem OutI.fstA {K:PySem.W.Frag}{H0 F H:Hp}{r:Rs (List D)}{k:List D→Rs (List D)}{Q:It→Hp→Prop}{P:List V→Hp→Prop}(h:OutI K cl E H0 F H (r.bind k) Q)(z:∀d v H1 F1,Gr F H F1 H1→Dts K cl F1 v d→OutI K cl E H0 F1 H1 (k d) Q→P v H1):OutA K cl E H0 F H r P:=by
 cases r with
 | ok d =>
  refine fun v H' F' g' q=>z d v H' F' g' q ?_
  have h':OutI K cl E H0 F H (k d) Q:=h
  cases e:k d with
  | ok ds=>rw[e] at h';exact fun J G vs H2 F2 g2=>h' J G vs H2 F2 (g'.trans g2)
  | ex n=>rw[e] at h';exact h'
  | no=>rw[e] at h';exact h'
 | ex n=>exact h
 | no=>exact h
theorem zby {K:PySem.W.Frag}{F:Hp}{α:Type}{v:α→V}{d:α→D}:∀{l:List α},(∀x∈l,Dt K cl F (v x) (d x))→Dts K cl F (l.map v) (l.map d)
 | [],_=>.nil
 | c::l,h=>.cons (h c (.head _)) (zby fun d hd=>h d (.tail _ hd))
theorem Dts.one {K:PySem.W.Frag}{F:Hp}{vs:List V}{d:D}(q:Dts K cl F vs [d]):∃v,vs=[v]∧Dt K cl F v d:=by
 cases q with
 | cons q r=>cases r;exact⟨_,rfl,q⟩
theorem Dts.two {K:PySem.W.Frag}{F:Hp}{vs:List V}{d e:D}(q:Dts K cl F vs [d,e]):∃v w,vs=[v,w]∧Dt K cl F v d∧Dt K cl F w e:=by
 cases q with
 | cons q r=>obtain⟨w,rfl,q2⟩:=r.one;exact⟨_,_,rfl,q,q2⟩
theorem Dts.three {K:PySem.W.Frag}{F:Hp}{vs:List V}{d e c:D}(q:Dts K cl F vs [d,e,c]):∃v w u,vs=[v,w,u]∧Dt K cl F v d∧Dt K cl F w e∧Dt K cl F u c:=by
 cases q with
 | cons q r=>obtain⟨w,u,rfl,q2,q3⟩:=r.two;exact⟨_,_,_,rfl,q,q2,q3⟩
theorem vy {tg a:Expr}{p:Pos}{fs:Rho→Rs (List D)}(hg:Gl X "range")(hm:X.mg "range" = none)(ha:XA X cl E [a] fs)(hs:starEach [a] X.env=[(false,eval a X.env)]):XI X cl E tg (.Call (.Name "range" p) [a] [] pos) (fR zdT fs):=by
 obtain⟨t,pt,rt⟩:=ha.ex
 refine XI.mk (pi_range1 hg hm pt hs) fun H0 F0 ρ σ H F Q R o=>rt H0 F0 ρ σ H F _ R (OutI.fstA o fun d v H1 F1 g q o1=>?_)
 match d,q,o1 with
 | [.int j],q,o1 =>
  obtain⟨v',rfl,q1⟩:=q.one
  cases q1
  dsimp only [zdT] at o1
  by_cases h:-(2 ^ 62)≤j∧j<2 ^ 62
  ·rw[if_pos h] at o1
   refine⟨j,rfl,h.1,h.2,o1 _ (fun _=>True) _ H1 F1 (Gr.refl (R.grow g).fh) wlk_range (fun _ _=>trivial) (zby fun k _=>?_)⟩
   rw[Int.zero_add];exact .int _
  ·rw[if_neg h] at o1;exact o1.elim
theorem xi_range3 {tg a b c:Expr}{p:Pos}{fs:Rho→Rs (List D)}(hg:Gl X "range")(hm:X.mg "range" = none)(ha:XA X cl E [a,b,c] fs)(hs:starEach [a,b,c] X.env=[(false,eval a X.env),(false,eval b X.env),(false,eval c X.env)])(hs2:starEach [b,c] X.env=[(false,eval b X.env),(false,eval c X.env)]):XI X cl E tg (.Call (.Name "range" p) [a,b,c] [] pos) (fR rng3 fs):=by
 obtain⟨t,pt,rt⟩:=ha.ex
 refine XI.mk (pi_range3 hg hm pt hs hs2) fun H0 F0 ρ σ H F Q R o=>rt H0 F0 ρ σ H F _ R (OutI.fstA o fun d v H1 F1 g q o1=>?_)
 match d,q,o1 with
 | [.int i,.int j,.int c],q,o1 =>
  obtain⟨v,w,u,rfl,q1,q2,q3⟩:=q.three
  cases q1;cases q2;cases q3
  dsimp only [rng3] at o1
  by_cases h:0≤i∧i≤j∧j<2 ^ 20∧0<c∧c<2 ^ 20
  ·rw[if_pos h] at o1
   exact⟨i,j,c,rfl,h.1,h.2.1,h.2.2.1,h.2.2.2.1,h.2.2.2.2,o1 _ (fun _=>True) _ H1 F1 (Gr.refl (R.grow g).fh) wlk_range3 (fun _ _=>trivial) (zby fun k _=>.int _)⟩
  ·rw[if_neg h] at o1;exact o1.elim
theorem zbq {tg iter:Expr}{body:List Stmt}{fi:Rho→Rs (List D)}{i:Nat}(hp:PassesOwn (model X.prog X.w) X.A X.env X.xe)(hc:X.calm=true)(hi:XI X cl E tg iter fi)(hg:PG X tg (wC i))(hb:XSs X cl E body g)(hs:∀x,foldedSetIterable iter X.env x=pure x:=by intro _;rfl):XS X cl E (.For tg iter body [] pos) (kO i fi g):=by
 obtain⟨u,pu,ru⟩:=hb.ex
 refine XS'.out ⟨_,ps_for hp hc hi hg pu hs,fun H0 F0 ρ σ H F Dn R o=>⟨H0,F0,ρ,F,R,?_⟩⟩
 unfold kO at o
 cases e:fi ρ with
 | ok ds =>
  rw[e] at o
  intro J G vs H1 F1 gg W hG dq
  refine zdX W (fun k σ H=>∃ρ' F',Rl X.K cl H0 F0 ρ' σ H F'∧Same F1 F'∧OutS X.K cl E H0 F0 F' (forD i g (ds.drop k) ρ') Dn) ⟨ρ,F1,R.grow gg,Same.refl _,o.grow gg.ff⟩ (fun k σ' H' _ ⟨ρ',F',R',s',_⟩=>hG H' (s'.trans R'.fh)) ?_ ?_
  ·rintro k x σ' H' hx ⟨ρ',F',R',s',o'⟩
   obtain⟨d,hd,qd⟩:=dq.get hx
   have hdr:ds.drop k=d::ds.drop (k+1):=by
    obtain⟨hk,e2⟩:=List.getElem?_eq_some_iff.mp hd
    rw[List.drop_eq_getElem_cons hk,e2]
   rw[hdr] at o'
   unfold forD at o'
   refine ru H0 F0 _ _ H' F' _ (R'.set (qd.mono s')) ?_
   cases e2:g (ρ'.set i (.fz d)) with
   | nx ρ2=>simp only[e2] at o';exact fun σ2 H2 F2 R2 s2=>⟨ρ2,F2,R2,s'.trans s2,o'.grow s2⟩
   | ct ρ2=>simp only[e2] at o';exact fun σ2 H2 F2 R2 s2=>⟨ρ2,F2,R2,s'.trans s2,o'.grow s2⟩
   | bk ρ2=>simp only[e2] at o';exact o'
   | rt d=>simp only[e2] at o';exact o'
   | ex n=>simp only[e2] at o';exact o'
   | no=>simp only[e2] at o';exact o'
  ·rintro σ' H' ⟨ρ',F',R',s',o'⟩
   rw[List.drop_of_length_le (by rw[dq.length];exact Nat.le_refl _)] at o'
   exact o' σ' H' F' R' (Same.refl _)
 | ex n=>rw[e] at o;exact o
 | no=>rw[e] at o;exact o
end
end L2
namespace L2
open PySem PySem.Spec PyProof.Rows
def xN (n:Nat)(caps:List Nat)(ρ:Rho):Rho:=List.replicate n .no++caps.map fun i=>match ρ[i]? with|some (.fz d)=>.fz d|_=>.no
def wD:Rho→Rs Bool:=fun _=>.ok true
def wX (ft:Rho→Rs Bool)(fe:Rho→Rs D)(ρ0:Rho):List D→Rs (List D)
 | []=>.ok []
 | d::ds=>match ft (ρ0.set 0 (.fz d)) with
  | .ok true=>(match fe (ρ0.set 0 (.fz d)) with | .ok e=>(wX ft fe ρ0 ds).bind fun es=>.ok (e::es)|_=>.no)
  | .ok false=>wX ft fe ρ0 ds
  | _=>.no
def fCp (fi:Rho→Rs (List D))(ft:Rho→Rs Bool)(fe:Rho→Rs D)(caps:List Nat):Rho→Rs (List D):=fun ρ=>(fi ρ).bind fun ds=>if ds.length≤1000000 then wX ft fe (xN 1 caps ρ) ds else .no
def xV (fi:Rho→Rs (List D))(ft:Rho→Rs Bool)(fe:Rho→Rs D)(caps:List Nat):Rho→Rs D:=fun ρ=>(fCp fi ft fe caps ρ).bind fun es=>.ok (.lst es)
def XTs (X:Cx)(cl:Nat→Addr)(E:XK)(ifs:List Expr)(f:Rho→Rs Bool):Prop:=PTs X ifs (tDB X.K cl E f)
section
variable {X:Cx}{cl:Nat→Addr}{E:XK}
theorem wZ:XTs X cl E [] wD:=fun pins s σ H Q I ⟨H0,F0,ρ,F,R,o⟩=>wpAny_tests_nil ⟨H,I,o H F (Gr.refl R.fh)⟩
theorem xts_one {c:Expr}{f:Rho→Rs Bool}(h:XT X cl E c f):XTs X cl E [c] f:=fun pins s σ H Q I hq=>wpAny_tests_one (h pins s σ H Q I hq)
theorem zag {ft:Rho→Rs Bool}{fe:Rho→Rs D}{ρ0:Rho}:∀{ds:List D}{n:Nat},wX ft fe ρ0 ds≠.ex n
 | [],n=>fun h=>by cases h
 | d :: ds,n=>fun h=>by
  unfold wX at h
  split at h
  ·split at h
   ·cases e:wX ft fe ρ0 ds with
    | ok es=>rw[e] at h;cases h
    | ex m=>exact zag e
    | no=>rw[e] at h;cases h
   ·cases h
  ·exact zag h
  ·cases h
theorem Rl.cap {K:PySem.W.Frag}{H0 F0 H F:Hp}{ρ:Rho}{σ:St}(R:Rl K cl H0 F0 ρ σ H F)(own:List Str)(caps:List Nat):Rl K cl H F (xN own.length caps ρ) (zbC own caps σ) H F where
 gr:=Gr.refl R.fh
 len:=by simp[xN,zbC]
 fz := fun i d e=>by
  unfold xN at e
  unfold zbC
  rcases Nat.lt_or_ge i own.length with h|h
  ·rw[List.getElem?_append_left (by simpa using h),List.getElem?_replicate,if_pos h] at e
   cases e
  ·rw [List.getElem?_append_right (by simpa using h),List.length_replicate,List.getElem?_map] at e
   rw[List.getElem?_append_right (by simpa using h),List.length_map,List.getElem?_map]
   cases c:caps[i - own.length]? with
   | none=>rw[c] at e;cases e
   | some k =>
    rw[c] at e
    have e':=Option.some.inj e
    dsimp only at e'
    split at e'
    ·rename_i d' z
     injection e' with e'
     subst e'
     obtain⟨v,h1,h2⟩:=R.fz k _ z
     exact⟨v,by show some ((σ[k]?).getD none)=some (some v);rw[h1];rfl,h2⟩
    ·cases e'
 ow := fun i d e=>by
  unfold xN at e
  rcases Nat.lt_or_ge i own.length with h|h
  ·rw[List.getElem?_append_left (by simpa using h),List.getElem?_replicate,if_pos h] at e
   cases e
  ·rw [List.getElem?_append_right (by simpa using h),List.length_replicate,List.getElem?_map] at e
   cases c:caps[i - own.length]? with
   | none=>rw[c] at e;cases e
   | some k =>
    rw[c] at e
    have e':=Option.some.inj e
    dsimp only at e'
    split at e' <;>cases e'
 od := fun i d e=>by
  unfold xN at e
  rcases Nat.lt_or_ge i own.length with h|h
  ·rw[List.getElem?_append_left (by simpa using h),List.getElem?_replicate,if_pos h] at e
   cases e
  ·rw [List.getElem?_append_right (by simpa using h),List.length_replicate,List.getElem?_map] at e
   cases c:caps[i - own.length]? with
   | none=>rw[c] at e;cases e
   | some k =>
    rw[c] at e
    have e':=Option.some.inj e
    dsimp only at e'
    split at e' <;>cases e'
 ap := fun i j s t a z1 z2 o1 o2 e1 e2=>by
  exfalso
  unfold xN at z1
  rcases Nat.lt_or_ge i own.length with h|h
  ·rw[List.getElem?_append_left (by simpa using h),List.getElem?_replicate,if_pos h] at z1
   injection z1 with z1;subst z1;cases o1
  ·rw [List.getElem?_append_right (by simpa using h),List.length_replicate,List.getElem?_map] at z1
   cases c:caps[i - own.length]? with
   | none=>rw[c] at z1;cases z1
   | some k =>
    rw[c] at z1
    have e':=Option.some.inj z1
    dsimp only at e'
    split at e' <;>(subst e';cases o1)
theorem turnsD {K:PySem.W.Frag}{H0 F0 H F:Hp}{ρ:Rho}{σ:St}{x:Str}{caps:List Nat}{ft:Rho→Rs Bool}{fe:Rho→Rs D}{ds es:List D}{J:It}{G:Hp→Prop}{vs:List V}{Fn:List V→Hp→Prop}(R:Rl K cl H0 F0 ρ σ H F)(W:Wlk J G vs)(hG:∀H'',Same F H''→G H'')(dq:Dts K cl F vs ds)(hl:ds.length≤1000000)
  (hc:wX ft fe (xN 1 caps ρ) ds=.ok es) (k:∀ys H' F',Gr F H F' H'→Dts K cl F' ys es→Fn ys H'):zam (wC 0) (tDB K cl E0 ft) (tDE K cl E0 fe) (zbC [x] caps σ) Fn J H:=by
 have hz:vs.length≤sizeLine:=sz6 (dq.length▸hl)
 refine jP W hz (fun i ys H'=>∃F' es1 es2,Gr F H F' H'∧Dts K cl F' ys es1∧ys.length≤i∧es=es1++es2∧wX ft fe (xN 1 caps ρ) (ds.drop i)=.ok es2) ⟨F,[],es,Gr.refl R.fh,.nil,Nat.le_refl _,rfl,hc⟩ (fun i ys H' _ ⟨F',_,_,g,_,h1,_⟩=>⟨hG H' (g.ff.trans g.fh),h1⟩) ?_ ?_
 ·rintro i v ys H' hv ⟨F',es1,es2,g,q1,hly,rfl,hc'⟩
  obtain⟨d,hd,qd⟩:=dq.get hv
  have hdr:ds.drop i=d::ds.drop (i+1):=by
   obtain⟨hk,e2⟩:=List.getElem?_eq_some_iff.mp hd
   rw[List.drop_eq_getElem_cons hk,e2]
  rw[hdr] at hc'
  unfold wX at hc'
  have R1:=(R.grow g).cap [x] caps
  have R2:Rl K cl H' F' ((xN 1 caps ρ).set 0 (.fz d)) ((zbC [x] caps σ).set 0 (some v)) H' F':=R1.set (qd.mono g.ff)
  refine⟨Kps.set rfl,H',F',_,F',R2,?_⟩
  cases e1:ft ((xN 1 caps ρ).set 0 (.fz d)) with
  | ok b =>
   rw[e1] at hc'
   intro H2 F2 g2
   cases b with
   | true =>
    rw[if_pos rfl]
    cases e2:fe ((xN 1 caps ρ).set 0 (.fz d)) with
    | ok e =>
     simp only[e2] at hc'
     refine⟨H',F',_,F2,R2.grow g2,?_⟩
     rw[e2]
     intro y H3 F3 g3 qy
     cases e3:wX ft fe (xN 1 caps ρ) (ds.drop (i+1)) with
     | ok es3 =>
      rw[e3] at hc'
      injection hc' with hc'
      exact⟨F3,es1++[e],es3,g.trans (g2.trans g3),(q1.mono (g2.ff.trans g3.ff)).append (.cons qy .nil),by simp;exact hly,by rw[← hc',List.append_assoc];rfl,rfl⟩
     | ex n=>rw[e3] at hc';cases hc'
     | no=>rw[e3] at hc';cases hc'
    | ex n=>simp only[e2] at hc';cases hc'
    | no=>simp only[e2] at hc';cases hc'
   | false =>
    rw[if_neg Bool.false_ne_true]
    exact⟨F2,es1,es2,g.trans g2,q1.mono g2.ff,Nat.le_succ_of_le hly,rfl,hc'⟩
  | ex n=>rw[e1] at hc';cases hc'
  | no=>rw[e1] at hc';cases hc'
 ·rintro ys H' ⟨F',es1,es2,g,q1,hly,rfl,hc'⟩
  rw[List.drop_of_length_le (by rw[dq.length];exact Nat.le_refl _)] at hc'
  injection hc' with hc'
  rw[← hc',List.append_nil] at k
  exact k ys H' F' g q1
variable {scope:Scope}{x:Str}{caps:List Nat}{elt tg iter:Expr}{ifs:List Expr}{fi:Rho→Rs (List D)}{ft:Rho→Rs Bool}{fe:Rho→Rs D}{pos:Pos}
structure CompD (X:Cx)(cl:Nat→Addr)(scope:Scope)(x:Str)(caps:List Nat)(tg:Expr)(ifs:List Expr)(elt:Expr)(ft:Rho→Rs Bool)(fe:Rho→Rs D):Prop where
 tgt:∀pins C ex s H,PG (cxC X pins scope [x] caps C ex s H) tg (wC 0)
 tst:∀pins C ex s H,XTs (cxC X pins scope [x] caps C ex s H) cl E0 ifs ft
 elm:∀pins C ex s H,XE (cxC X pins scope [x] caps C ex s H) cl E0 elt fe
theorem CompD.ci (h:CompD X cl scope x caps tg ifs elt ft fe):CompIn X scope [x] caps tg ifs elt (wC 0) (tDB X.K cl E0 ft) (tDE X.K cl E0 fe):=⟨h.tgt,h.tst,h.elm⟩
theorem OutI.comp {K:PySem.W.Frag}{H0 F0 H F:Hp}{ρ:Rho}{σ:St}{P:List V→Hp→Prop}(R:Rl K cl H0 F0 ρ σ H F)(o:OutA K cl E H0 F H (fCp fi ft fe caps ρ) P):OutI K cl E H0 F H (fi ρ) fun J H1=>zam (wC 0) (tDB K cl E0 ft) (tDE K cl E0 fe) (zbC [x] caps σ) P J H1:=by
 unfold fCp at o
 cases e:fi ρ with
 | ok ds =>
  rw[e] at o
  have o1:OutA K cl E H0 F H (if ds.length≤1000000 then wX ft fe (xN 1 caps ρ) ds else .no) P:=o
  intro J G vs H1 F1 g W hG dq
  split at o1
  ·rename_i hl
   cases e2:wX ft fe (xN 1 caps ρ) ds with
   | ok es=>rw[e2] at o1;exact turnsD (R.grow g) W hG dq hl e2 fun ys H' F' g' q=>o1 ys H' F' (g.trans g') q
   | ex n=>exact absurd e2 zag
   | no=>rw[e2] at o1;exact o1.elim
  ·exact o1.elim
 | ex n=>rw[e] at o;exact o
 | no=>rw[e] at o;exact o
theorem uh (ok:CompOk X scope caps)(hc:X.calm=true)(hi:XI X cl E tg iter fi)(CI:CompD X cl scope x caps tg ifs elt ft fe)(hs:∀x,foldedSetIterable iter X.env x=pure x:=by intro _;rfl):XE X cl E (.ListComp elt [⟨tg,iter,ifs,0⟩] scope pos) (xV fi ft fe caps):=by
 refine XE'.out ⟨_,zcr ok hc hi CI.ci hs,fun H0 F0 ρ σ H F Q R o=>⟨H0,F0,ρ,F,R,OutI.comp R ?_⟩⟩
 refine OutA.fst o fun es ys H' F' g q o1=>?_
 intro p hp
 have fh:=(R.grow g).fh
 exact o1 _ _ _ (Gr.new fh hp) (.lst (.inl (.inl zM)) (q.mono (Same.upd (fh.free hp))))
def vK (j:Nat)(fs:Rho→Rs (List D)):Rho→Out:=fun ρ=>match fs ρ with | .ok es=>.nx (ρ.set j (.fz (.lst es))) | .ex n=>.ex n | .no=>.no
def vh (j:Nat)(fs:Rho→Rs (List D)):Rho→Out:=fun ρ=>match fs ρ with | .ok es=>.nx (ρ.set j (.ow es)) | .ex n=>.ex n | .no=>.no
theorem xs_comp {j:Nat}{y:Str}{py spos:Pos}(hN:X.N.Nodup)(hj:X.N[j]? = some y)(hy:X.env.scope.names.lookup y=some .local)(ok:CompOk X scope caps)(hc:X.calm=true)(hi:XI X cl E tg iter fi)(CI:CompD X cl scope x caps tg ifs elt ft fe)
  (hsw:swapsWith (.ListComp elt [⟨tg,iter,ifs,0⟩] scope pos) (some (.Name y py)) spos.line X.env=pure true) (hs:∀x,foldedSetIterable iter X.env x=pure x:=by intro _;rfl):XS X cl E (.Assign [.Name y py] (.ListComp elt [⟨tg,iter,ifs,0⟩] scope pos) spos) (vK j (fCp fi ft fe caps)):=by
 refine XS'.out ⟨_,zd2 hN hj hy ok hc hi CI.ci hsw hs,fun H0 F0 ρ σ H F Dn R o=>⟨H0,F0,ρ,F,R,OutI.comp R ?_⟩⟩
 unfold vK at o
 cases e:fCp fi ft fe caps ρ with
 | ok es =>
  rw[e] at o
  intro ys H' F' g q p hp
  have fh:=(R.grow g).fh
  have g2:Gr F' H' (upd F' p (.lst ys)) (upd H' p (.lst ys)):=Gr.new fh hp
  exact o _ _ _ (((R.grow g).grow g2).set (.lst (.inl (.inl zM)) (q.mono g2.ff))) (g.ff.trans g2.ff)
 | ex n=>rw[e] at o;exact o
 | no=>rw[e] at o;exact o
theorem xs_compO {j:Nat}{y:Str}{py spos:Pos}(hN:X.N.Nodup)(hj:X.N[j]? = some y)(hy:X.env.scope.names.lookup y=some .local)(ok:CompOk X scope caps)(hc:X.calm=true)(hi:XI X cl E tg iter fi)(CI:CompD X cl scope x caps tg ifs elt ft fe)
  (hsw:swapsWith (.ListComp elt [⟨tg,iter,ifs,0⟩] scope pos) (some (.Name y py)) spos.line X.env=pure true) (hs:∀x,foldedSetIterable iter X.env x=pure x:=by intro _;rfl):XS X cl E (.Assign [.Name y py] (.ListComp elt [⟨tg,iter,ifs,0⟩] scope pos) spos) (vh j (fCp fi ft fe caps)):=by
 refine XS'.out ⟨_,zd2 hN hj hy ok hc hi CI.ci hsw hs,fun H0 F0 ρ σ H F Dn R o=>⟨H0,F0,ρ,F,R,OutI.comp R ?_⟩⟩
 unfold vh at o
 cases e:fCp fi ft fe caps ρ with
 | ok es =>
  rw[e] at o
  intro ys H' F' g q p hp
  exact o _ _ _ ((R.grow g).setO hp q) g.ff
 | ex n=>rw[e] at o;exact o
 | no=>rw[e] at o;exact o
end
end L2
namespace L2
open PySem PySem.Spec PyProof.Rows
def Fn1 (K:PySem.W.Frag)(cl:Nat→Addr)(r:List V→Hp→VK→Prop)(g:List D→Option D):Prop :=
 ∀(F H:Hp) (vs:List V) (ds:List D) (d:D) (Q:VK),Same F H→Dts K cl F vs ds→g ds=some d→(∀v H' F',Gr F H F' H'→Dt K cl F' v d→Q v H')→r vs H Q
def qp:List D→Option D
 | [.str l]=>some (.int l.length)
 | [.lst l]=>some (.int l.length)
 | [.tup l]=>some (.int l.length)
 | _=>none
def unB:D→Bool
 | .bl b=>b
 | _=>false
def isB:D→Bool
 | .bl _=>true
 | _=>false
def unS:D→List Nat
 | .str l=>l
 | _=>[]
def isS:D→Bool
 | .str _=>true
 | _=>false
def allD:List D→Option D
 | [.lst ds]=>if ds.all isB=true then some (.bl (ds.all unB)) else none
 | _=>none
def anyD:List D→Option D
 | [.lst ds]=>if ds.all isB=true then some (.bl (ds.any unB)) else none
 | _=>none
def sortL (ds:List D):Option (List D):=if ds.all isS=true∧ds.length<64 then some ((My.sortF (ds.map unS)).map .str) else none
def sortD:List D→Option (List D)
 | [.lst ds]=>sortL ds
 | [.tup ds]=>sortL ds
 | _=>none
def tupD:List D→Option D
 | [.lst ds]=>some (.tup ds)
 | [.tup ds]=>some (.tup ds)
 | _=>none
def xr:D→D→Option D
 | .str l,.str m=>some (.bl (m.isPrefixOf l))
 | _,_=>none
def vJ:D→D→Option D
 | .str [],.lst ds=>if ds.all isS=true∧(ds.map unS).flatten.length≤1000000 then some (.str (ds.map unS).flatten) else none
 | _,_=>none
def zcy (g:PyData→Bool)(d:D):Option D:=if d.pl=true then some (.bl (g d.py)) else none
def isInt:PyData→Bool:=fun d=>match d with | .int _=>true | .bool _=>true|_=>false
def isBool:PyData→Bool:=fun d=>match d with | .bool _=>true|_=>false
def isStr:PyData→Bool:=fun d=>match d with | .str _=>true|_=>false
def isTup:PyData→Bool:=fun d=>match d with | .tuple _=>true|_=>false
section
variable {K:PySem.W.Frag}{cl:Nat→Addr}{F H:Hp}
theorem Dts.bools:∀{vs:List V}{ds:List D},Dts K cl F vs ds→ds.all isB=true→vs=(ds.map unB).map V.bl
 | _,_,.nil,_=>rfl
 | _,_,.cons q r,h=>by
  rw[List.all_cons,Bool.and_eq_true] at h
  have:=Dts.bools r h.2
  cases q <;>simp[isB] at h
  rw[this];rfl
theorem Dts.texts:∀{vs:List V}{ds:List D},Dts K cl F vs ds→ds.all isS=true→vs=vT (ds.map unS)∧(∀x∈ds.map unS,TxtOk (T x))∧ds=(ds.map unS).map .str
 | _,_,.nil,_=>⟨rfl,by simp,rfl⟩
 | _,_,.cons q r,h=>by
  rw[List.all_cons,Bool.and_eq_true] at h
  obtain⟨e1,e2,e3⟩:=Dts.texts r h.2
  cases q with
  | str l ok =>
   refine⟨by rw[e1];rfl,fun x hx=>?_,by rw[List.map_cons,List.map_cons,← e3];rfl⟩
   rw[List.map_cons] at hx
   rcases List.mem_cons.mp hx with rfl|hx
   ·exact ok
   ·exact e2 x hx
  | _=>simp[isS] at h
theorem dts_texts {ls:List (List Nat)}(h:∀x∈ls,TxtOk (T x)):Dts K cl F (vT ls) (ls.map .str):=zby fun x hx=>.str x (h x hx)
theorem n_len:Fn1 K cl (fun xs H Q=>∃x n,xs=[x]∧LenV K x H n∧Q (.int n) H) qp:=fun F H vs ds d Q s q e k=>by
 match ds,q,e with
 | [.str l],q,e =>
  obtain⟨v,rfl,q1⟩:=q.one
  obtain rfl:=Option.some.inj e
  cases q1 with
  | str l ok=>exact⟨_,l.length,rfl,⟨sz6 ok.2,(zaC l).symm⟩,k _ _ _ (Gr.refl s) (.int _)⟩
 | [.lst l],q,e =>
  obtain⟨v,rfl,q1⟩:=q.one
  obtain rfl:=Option.some.inj e
  cases q1 with
  | lst sq dq=>exact⟨_,l.length,rfl,.inl ⟨_,s.seq sq,dq.length.symm⟩,k _ _ _ (Gr.refl s) (.int _)⟩
 | [.tup l],q,e =>
  obtain⟨v,rfl,q1⟩:=q.one
  obtain rfl:=Option.some.inj e
  cases q1 with
  | tup sq dq=>exact⟨_,l.length,rfl,.inr ⟨_,s.seqT sq,dq.length.symm⟩,k _ _ _ (Gr.refl s) (.int _)⟩
theorem n_all:Fn1 K cl (fun xs H Q=>∃(a:Addr) (bs:List Bool),xs=[.ref a]∧SqL K H a (bs.map V.bl)∧Q (.bl (bs.all id)) H) allD:=fun F H vs ds d Q s q e k=>by
 match ds,q,e with
 | [.lst l],q,e =>
  obtain⟨v,rfl,q1⟩:=q.one
  dsimp only [allD] at e
  split at e
  ·rename_i h
   obtain rfl:=Option.some.inj e
   cases q1 with
   | lst sq dq =>
    rw[dq.bools h] at sq
    refine⟨_,_,rfl,s.seq sq,?_⟩
    have:=k _ _ _ (Gr.refl s) (.bl (l.all unB))
    rwa [List.all_map]
  ·cases e
theorem n_any:Fn1 K cl (fun xs H Q=>∃(a:Addr) (bs:List Bool),xs=[.ref a]∧SqL K H a (bs.map V.bl)∧Q (.bl (bs.any id)) H) anyD:=fun F H vs ds d Q s q e k=>by
 match ds,q,e with
 | [.lst l],q,e =>
  obtain⟨v,rfl,q1⟩:=q.one
  dsimp only [anyD] at e
  split at e
  ·rename_i h
   obtain rfl:=Option.some.inj e
   cases q1 with
   | lst sq dq =>
    rw[dq.bools h] at sq
    refine⟨_,_,rfl,s.seq sq,?_⟩
    have:=k _ _ _ (Gr.refl s) (.bl (l.any unB))
    rwa [List.any_map]
  ·cases e
theorem n_tup:Fn1 K cl (fun xs H Q=>∃p ys,xs=[.ref p]∧((SqL K H p ys∧∀l,H l=none→Q (.ref l) (upd H l (.tup ys)))∨(SqT K H p ys∧Q (.ref p) H))) tupD:=fun F H vs ds d Q s q e k=>by
 match ds,q,e with
 | [.lst l],q,e =>
  obtain⟨v,rfl,q1⟩:=q.one
  obtain rfl:=Option.some.inj e
  cases q1 with
  | lst sq dq=>exact⟨_,_,rfl,.inl ⟨s.seq sq,fun p hp=>k _ _ _ (Gr.new s hp) (.tup (.inl (.inl zM)) (dq.mono (Same.upd (s.free hp))))⟩⟩
 | [.tup l],q,e =>
  obtain⟨v,rfl,q1⟩:=q.one
  obtain rfl:=Option.some.inj e
  cases q1 with
  | tup sq dq=>exact⟨_,_,rfl,.inr ⟨s.seqT sq,k _ _ _ (Gr.refl s) (.tup sq dq)⟩⟩
end
section
variable {X:Cx}{cl:Nat→Addr}{E:XK}{e o:Expr}{es:List Expr}{fa fb:Rho→Rs D}{fs:Rho→Rs (List D)}{x:Str}{p pos:Pos}
theorem yq {id:String}{r:List V→Hp→VK→Prop}{g:List D→Option D}(hc:jj X (.builtin id) r)(hF:Fn1 X.K cl r g)(hg:Gl X x)(hm:X.mg x=none)(hv:bootBuiltins x=some (.builtin id))(ha:XA X cl E (e::es) fs)(he:starEach (e::es) X.env=(false,eval e X.env)::starEach es X.env)(hn:x ≠ "__name__" := by decide)(hdb:(x == ("__debug__" : Str))=false:=by decide)(hpl:(backTo pos (starEach es X.env)).any (·.1)=false:=by rfl):XE X cl E (.Call (.Name x p) (e::es) [] pos) (fO g fs):=by
 obtain⟨t,pt,rt⟩:=ha.ex
 refine XE'.out ⟨_,zaI hc hg hm hv pt hn hdb he hpl,fun H0 F0 ρ σ H F Q R o=>rt H0 F0 ρ σ H F _ R (OutA.fst o fun ds vs H1 F1 g1 q o1=>?_)⟩
 obtain⟨z,hz,k⟩:=o1.lf
 exact hF F1 H1 vs ds z _ (R.grow g1).fh q hz k
theorem zdn {T:String}{r:List V→Hp→VK→Prop}{g:List D→Option D}(hc:jj X (.type T) r)(hF:Fn1 X.K cl r g)(hg:Gl X x)(hm:X.mg x=none)(hv:bootBuiltins x=some (.type T))(ha:XA X cl E (e::es) fs)(he:starEach (e::es) X.env=(false,eval e X.env)::starEach es X.env)(hn:x ≠ "__name__" := by decide)(hdb:(x == ("__debug__" : Str))=false:=by decide)(hpl:(backTo pos (starEach es X.env)).any (·.1)=false:=by rfl):XE X cl E (.Call (.Name x p) (e::es) [] pos) (fO g fs):=by
 obtain⟨t,pt,rt⟩:=ha.ex
 refine XE'.out ⟨_,pe_callTy hc hg hm hv pt hn hdb he hpl,fun H0 F0 ρ σ H F Q R o=>rt H0 F0 ρ σ H F _ R (OutA.fst o fun ds vs H1 F1 g1 q o1=>?_)⟩
 obtain⟨z,hz,k⟩:=o1.lf
 exact hF F1 H1 vs ds z _ (R.grow g1).fh q hz k
theorem zdg {n:String}{b:Expr}{g:PyData→Bool}(hk:∀d,PySem.W.kitOne X.K (.type (tyN d)) (.type n)=some (g d))(hg:Gl X "isinstance")(hm:X.mg "isinstance" = none)(ha:XE X cl E e fa)(hb:PE X b (tC (.ty n)))(h1:starEach [e,b] X.env=(false,eval e X.env)::starEach [b] X.env)(h2:starEach [b] X.env=(false,eval b X.env)::starEach [] X.env:=by rfl)(hpl:(backTo pos (starEach [b] X.env)).any (·.1)=false:=by rfl):XE X cl E (.Call (.Name "isinstance" p) [e,b] [] pos) (f1 (zcy g) fa):=by
 obtain⟨t,pt,rt⟩:=ha.ex
 refine XE'.out ⟨_,zaI zdz hg hm boot_isinstance (xK pt (xK hb uD h2) h1) (by decide) (by decide) h1 hpl,fun H0 F0 ρ σ H F Q R o=>rt H0 F0 ρ σ H F _ R (OutE.fst o fun d v H1 F1 g1 q o1=>?_)⟩
 obtain⟨z,hz,k⟩:=o1.lf
 unfold zcy at hz
 split at hz
 ·rename_i hp
  obtain rfl:=Option.some.inj hz
  have fh:=(R.grow g1).fh
  exact⟨v,d.py,n,g d.py,rfl,(q.is hp).mono fh,hk _,k _ _ _ (Gr.refl fh) (.bl _)⟩
 ·cases hz
def fM (chk:D→Bool)(g:D→D→Option D)(fa fb:Rho→Rs D):Rho→Rs D:=fun ρ=>(fa ρ).bind fun a=>if chk a=true then(fb ρ).bind fun b=>lf (g a b) else .no
structure Mth (X:Cx)(o e:Expr)(name:Str)(apos cpos:Pos):Prop where
 hs:starEach [e] X.env=(false,eval e X.env)::starEach [] X.env
 base:attributeBase o name X.env (eval o X.env)=eval o X.env
 few:((backTo cpos (starEach [e] X.env)).all (fun x=>!x.1)&&(backToKw cpos (keywordEach [] X.env)).all (fun x=>x.1.isSome)&&decide (([e]:List Expr).length+([]:List Keyword).length+(if ([]:List Keyword).isEmpty then 0 else 1)<30))=true
 line:(apos.endLine == cpos.line)=true
 plain:(backTo cpos (starEach [] X.env)).any (·.1)=false
theorem jM {apos cpos:Pos}(ho:XE X cl E o fa)(ha:XE X cl E e fb)(m:Mth X o e "startswith" apos cpos):XE X cl E (.Call (.Attribute o "startswith" apos) [e] [] cpos) (fM isS xr fa fb):=by
 obtain⟨t,pt,rt⟩:=ho.ex
 obtain⟨u,pu,ru⟩:=ha.ex
 refine XE'.out ⟨_,zeq PySem.F.plainAttrs_str PySem.F.slot_str_startswith PySem.F.type_str_startswith mt_starts pt (xK pu uD m.hs) m.base m.few m.line m.hs m.plain,fun H0 F0 ρ σ H F Q R o=>rt H0 F0 ρ σ H F _ R (OutE.fst o fun d v H1 F1 g1 q o1=>?_)⟩
 split at o1
 ·rename_i hd
  cases q with
  | str l ok =>
   refine⟨rfl,ru H0 F0 ρ σ H1 F1 _ (R.grow g1) (OutE.fst o1 fun d2 v2 H2 F2 g2 q2 o2=>?_)⟩
   obtain⟨z,hz,k⟩:=o2.lf
   cases q2 with
   | str m ok2 =>
    obtain rfl:=Option.some.inj hz
    exact⟨l,m,rfl,rfl,k _ _ _ (Gr.refl (R.grow (g1.trans g2)).fh) (.bl _)⟩
   | _=>cases hz
  | _=>cases hd
 ·exact o1.elim
theorem zcG {apos cpos:Pos}(ho:XE X cl E o fa)(ha:XE X cl E e fb)(m:Mth X o e "join" apos cpos):XE X cl E (.Call (.Attribute o "join" apos) [e] [] cpos) (fM isS vJ fa fb):=by
 obtain⟨t,pt,rt⟩:=ho.ex
 obtain⟨u,pu,ru⟩:=ha.ex
 refine XE'.out ⟨_,zeq PySem.F.plainAttrs_str PySem.F.slot_str_join PySem.F.type_str_join zea pt (xK pu uD m.hs) m.base m.few m.line m.hs m.plain,fun H0 F0 ρ σ H F Q R o=>rt H0 F0 ρ σ H F _ R (OutE.fst o fun d v H1 F1 g1 q o1=>?_)⟩
 split at o1
 ·rename_i hd
  cases q with
  | str l ok =>
   refine⟨rfl,ru H0 F0 ρ σ H1 F1 _ (R.grow g1) (OutE.fst o1 fun d2 v2 H2 F2 g2 q2 o2=>?_)⟩
   obtain⟨z,hz,k⟩:=o2.lf
   cases q2 with
   | lst sq dq =>
    rename_i ds
    match l,hz with
    | [],hz =>
     dsimp only [vJ] at hz
     split at hz
     ·rename_i h
      obtain rfl:=Option.some.inj hz
      obtain⟨e1,e2,e3⟩:=dq.texts h.1
      have fh:=(R.grow (g1.trans g2)).fh
      rw[e1] at sq
      refine⟨_,ds.map unS,rfl,rfl,fh.seq sq,h.2,k _ _ _ (Gr.refl fh) (.str _ (jL (fun c hc=>?_) h.2))⟩
      obtain⟨y,hy,hc⟩:=List.mem_flatten.mp hc
      have a:(T y).cps.all (· < 0x110000)=true:=(e2 y hy).1
      simp only[T,List.all_toArray,List.all_eq_true,decide_eq_true_eq] at a
      exact a c hc
     ·cases hz
    | _::_,hz=>cases hz
   | _=>cases l <;>cases hz
  | _=>cases hd
 ·exact o1.elim
theorem zbn {a b:Expr}(ha:XE X cl E a fa)(hb:XE X cl E b fb)(hs:zaP b):XE X cl E (.Subscript a b pos) (f2 ixD fa fb):=by
 obtain⟨t,pt,rt⟩:=ha.ex
 obtain⟨u,pu,ru⟩:=hb.ex
 refine XE'.out ⟨_,pe_ix ix_seq pt pu hs,fun H0 F0 ρ σ H F Q R o=>rt H0 F0 ρ σ H F _ R (OutE.fst o fun d v H1 F1 g1 q o1=>?_)⟩
 refine ru H0 F0 ρ σ H1 F1 _ (R.grow g1) (OutE.fst o1 fun e w H2 F2 g2 q2 o2=>?_)
 obtain⟨z,hz,k⟩:=o2.lf
 exact o_ix F2 H2 v w d e z _ (R.grow (g1.trans g2)).fh (q.mono g2.ff) q2 hz k
def xO:Rho→Rs (Option Int):=fun _=>.ok none
def yR (f:Rho→Rs D):Rho→Rs (Option Int):=fun ρ=>(f ρ).bind fun d=>match d with | .int i=>.ok (some i)|_=>.no
theorem jA:XO' X cl E none xO:=⟨_,po_none,fun H0 F0 ρ σ H F Q R o=>o H F (Gr.refl R.fh)⟩
theorem uK (h:XE X cl E e fa):XO' X cl E (some e) (yR fa):=by
 obtain⟨t,pt,rt⟩:=h.ex
 refine⟨_,po_some pt,fun H0 F0 ρ σ H F Q R o=>rt H0 F0 ρ σ H F _ R ?_⟩
 unfold yR at o
 cases e:fa ρ with
 | ok d =>
  rw[e] at o
  intro v H' F' g q
  cases q with
  | int i=>exact⟨i,rfl,o H' F' g⟩
  | _=>exact o.elim
 | ex n=>rw[e] at o;exact o
 | no=>rw[e] at o;exact o
def fSl (fa:Rho→Rs D)(fl fh:Rho→Rs (Option Int)):Rho→Rs D:=fun ρ=>(fa ρ).bind fun a=>(fl ρ).bind fun l=>(fh ρ).bind fun h=>lf (slD a l h)
theorem cutL_len {α:Type}(xs:List α)(lo hi:Option Int):(zbF xs lo hi).length≤xs.length:=by
 unfold zbF
 rw[List.length_take,List.length_drop];omega
theorem Dts.cut {K:PySem.W.Frag}{F:Hp}{vs:List V}{ds:List D}(q:Dts K cl F vs ds)(lo hi:Option Int):Dts K cl F (cutV vs lo hi) (zbF ds lo hi):=by
 unfold cutV zbF
 rw[q.length]
 exact(q.drop _).take _
theorem vP {lo hi:Option Expr}{p2:Pos}{fl fh:Rho→Rs (Option Int)}(ha:XE X cl E e fa)(hl:XO' X cl E lo fl)(hh:XO' X cl E hi fh):XE X cl E (.Subscript e (.Slice lo hi none p2) pos) (fSl fa fl fh):=by
 obtain⟨t,pt,rt⟩:=ha.ex
 obtain⟨u,pu,ru⟩:=hl
 obtain⟨w,pw,rw'⟩:=hh
 refine XE'.out ⟨_,pe_slice (SlR.or sl_list (SlR.or sl_tupU sl_str)) pt pu pw,fun H0 F0 ρ σ H F Q R o=>rt H0 F0 ρ σ H F _ R (OutE.fst o fun d v H1 F1 g1 q o1=>?_)⟩
 refine ru H0 F0 ρ σ H1 F1 _ (R.grow g1) ?_
 cases e1:fl ρ with
 | ok l =>
  rw[e1] at o1
  intro H2 F2 g2
  refine rw' H0 F0 ρ σ H2 F2 _ ((R.grow g1).grow g2) ?_
  cases e2:fh ρ with
  | ok h =>
   rw[e2] at o1
   intro H3 F3 g3
   have o3:OutE X.K cl E H0 F3 H3 (lf (slD d l h)) Q:=OutE.grow o1 (g2.trans g3)
   obtain⟨z,hz,k⟩:=o3.lf
   have fh:=(((R.grow g1).grow g2).grow g3).fh
   have q3:=q.mono (g2.trans g3).ff
   cases q3 with
   | lst sq dq =>
    obtain rfl:=Option.some.inj hz
    refine .inl ⟨_,_,rfl,fh.seq sq,fun p hp=>k _ _ _ (Gr.new fh hp) (.lst (.inl (.inl zM)) ((dq.cut l h).mono (Same.upd (fh.free hp))))⟩
   | tup sq dq =>
    obtain rfl:=Option.some.inj hz
    refine .inr (.inl ⟨_,_,rfl,fh.seqT sq,fun p H' hs qq=>?_⟩)
    obtain⟨F',g,q'⟩:=Gr.tup fh hs qq (dq.cut l h)
    exact k _ _ _ g q'
   | str ls ok =>
    obtain rfl:=Option.some.inj hz
    refine .inr (.inr ⟨_,rfl,sz6 ok.2,?_⟩)
    rw[zbD,zaC]
    refine k _ _ _ (Gr.refl fh) (.str (zbF ls l h) (txt_sub ok (fun c hc=>?_) (Nat.le_trans (cutL_len _ _ _) (by have:=ok.2;rw[zaC] at this;exact this))))
    exact List.mem_of_mem_drop (List.mem_of_mem_take hc)
   | _=>cases hz
  | ex n=>rw[e2] at o1;exact o1
  | no=>rw[e2] at o1;exact o1
 | ex n=>rw[e1] at o1;exact o1
 | no=>rw[e1] at o1;exact o1
end
end L2
namespace L2
open PySem PySem.Spec PyProof.Rows
def XL (X:Cx)(cl:Nat→Addr)(E:XK)(e:Expr)(f:Rho→Rs (List D)):Prop :=
 ∃t:TE,PE X e t∧∀(H0 F0:Hp) (ρ:Rho) (σ:St) (H F:Hp) (Q:VK),Rl X.K cl H0 F0 ρ σ H F→OutA X.K cl E H0 F H (f ρ) (fun vs H1=>∀p,H1 p=none→Q (.ref p) (upd H1 p (.lst vs)))→t σ H Q
def fLs (f:Rho→Rs (List D)):Rho→Rs D:=fun ρ=>(f ρ).bind fun ds=>.ok (.lst ds)
section
variable {X:Cx}{cl:Nat→Addr}{E:XK}{e o:Expr}{es:List Expr}{fa fb:Rho→Rs D}{fs:Rho→Rs (List D)}{x:Str}{p pos:Pos}
theorem XL.xe (h:XL X cl E e fs):XE X cl E e (fLs fs):=by
 obtain⟨t,pt,rt⟩:=h
 refine XE'.out ⟨_,pt,fun H0 F0 ρ σ H F Q R o=>rt H0 F0 ρ σ H F _ R (OutA.fst o fun ds vs H1 F1 g q o1=>fun p hp=>?_)⟩
 have fh:=(R.grow g).fh
 exact o1 _ _ _ (Gr.new fh hp) (.lst (.inl (.inl zM)) (q.mono (Same.upd (fh.free hp))))
def lf' {α:Type}:Option α→Rs α
 | some d=>.ok d
 | none=>.no
def fL (g:List D→Option (List D))(fs:Rho→Rs (List D)):Rho→Rs (List D):=fun ρ=>(fs ρ).bind fun as=>lf' (g as)
def fL2 (g:D→D→Option (List D))(fa fb:Rho→Rs D):Rho→Rs (List D):=fun ρ=>(fa ρ).bind fun a=>(fb ρ).bind fun b=>lf' (g a b)
theorem OutA.lf {K:PySem.W.Frag}{H0 F H:Hp}{o:Option (List D)}{Q:List V→Hp→Prop}(h:OutA K cl E H0 F H (lf' o) Q):∃d,o=some d∧∀v H' F',Gr F H F' H'→Dts K cl F' v d→Q v H':=by
 cases o with
 | none=>exact h.elim
 | some d=>exact⟨d,rfl,h⟩
def szL (ds:List D):Option (List D):=if ds.length≤1000000 then some ds else none
theorem xl_lst (h:XA X cl E es fs):XL X cl E (.List es pos) (fL szL fs):=by
 obtain⟨t,pt,rt⟩:=h.ex
 refine⟨_,pe_lst pt,fun H0 F0 ρ σ H F Q R o=>rt H0 F0 ρ σ H F _ R (OutA.fstA o fun ds vs H1 F1 g q o1=>?_)⟩
 obtain⟨z,hz,k⟩:=o1.lf
 unfold szL at hz
 split at hz
 ·rename_i hl
  obtain rfl:=Option.some.inj hz
  exact⟨sz6 (q.length▸hl),fun p hp=>k vs H1 F1 (Gr.refl (R.grow g).fh) q p hp⟩
 ·cases hz
def catD:D→D→Option (List D)
 | .lst l,.lst m=>if l.length+m.length≤1000000 then some (l++m) else none
 | _,_=>none
theorem zbU {K:PySem.W.Frag}{F H:Hp}{a:Addr}{vs:List V}{ds z:List D}{Q:List V→Hp→Prop}(fh:Same F H)(dq:Dts K cl F vs ds)(hz:sortL ds=some z)(k:∀v H' F',Gr F H F' H'→Dts K cl F' v z→Q v H'):vs=vT (ds.map unS)∧(ds.map unS).length<64∧∀ms,ms.Perm (ds.map unS)→Srt ms→Q (vT ms) H:=by
 unfold sortL at hz
 split at hz
 ·rename_i h
  obtain rfl:=Option.some.inj hz
  obtain⟨e1,e2,e3⟩:=dq.texts h.1
  refine⟨e1,by rw[List.length_map];exact h.2,fun ms pm sm=>?_⟩
  obtain rfl:=My.sortF_eq sm pm
  exact k _ _ _ (Gr.refl fh) (dts_texts fun y hy=>e2 y (My.sortF_mem.mp hy))
 ·cases hz
theorem xl_sorted (hg:Gl X "sorted")(hm:X.mg "sorted" = none)(hv:bootBuiltins "sorted" = some (.builtin "sorted"))(h:XE X cl E e fa)(hs:starEach [e] X.env=(false,eval e X.env)::starEach [] X.env)(hpl:(backTo pos (starEach [] X.env)).any (·.1)=false:=by rfl):XL X cl E (.Call (.Name "sorted" p) [e] [] pos) (fL sortD (zf fa zF)):=by
 obtain⟨t,pt,rt⟩:=(zj h zx hs).ex
 have hc:jj X (.builtin "sorted") (fun xs H Q=>(∃a ls,xs=[.ref a]∧SqL X.K H a (vT ls)∧ls.length<64∧∀p ms,H p=none→ms.Perm ls→Srt ms→Q (.ref p) (upd H p (.lst (vT ms))))∨(∃a ls,xs=[.ref a]∧SqT X.K H a (vT ls)∧ls.length<64∧∀p ms,H p=none→ms.Perm ls→Srt ms→Q (.ref p) (upd H p (.lst (vT ms))))):=fun pins s σ H xs us Q I r q=>by
  rcases q with q|q
  ·exact zdP pins s σ H xs us Q I r q
  ·exact zdd pins s σ H xs us Q I r q
 refine⟨_,zaI hc hg hm hv pt (by decide) (by decide) hs hpl,fun H0 F0 ρ σ H F Q R o=>rt H0 F0 ρ σ H F _ R (OutA.fstA o fun ds vs H1 F1 g q o1=>?_)⟩
 obtain⟨z,hz,k⟩:=o1.lf
 have fh:=(R.grow g).fh
 match ds,q,hz with
 | [.lst l],q,hz =>
  obtain⟨v,rfl,q1⟩:=q.one
  cases q1 with
  | lst sq dq =>
   obtain⟨e1,e2,e3⟩:=zbU (a:=0) fh dq hz k
   rw[e1] at sq
   exact .inl ⟨_,_,rfl,fh.seq sq,e2,fun p ms hp pm sm=>e3 ms pm sm p hp⟩
 | [.tup l],q,hz =>
  obtain⟨v,rfl,q1⟩:=q.one
  cases q1 with
  | tup sq dq =>
   obtain⟨e1,e2,e3⟩:=zbU (a:=0) fh dq hz k
   rw[e1] at sq
   exact .inr ⟨_,_,rfl,fh.seqT sq,e2,fun p ms hp pm sm=>e3 ms pm sm p hp⟩
theorem zd0 {i:Nat}{pos':Pos}(hN:X.N.Nodup)(hi:X.N[i]? = some x)(hx:Loc X.env.scope x)(he:XL X cl E e fs)(hs:swapsWith e (some (.Name x pos')) pos.line X.env=pure false:=by rfl)(hf:X.fn x=true∨X.env.scope.names.lookup x=some .local:=by first|exact .inl rfl|exact .inr rfl|assumption) :
  XS X cl E (.Assign [.Name x pos'] e pos) (vh i fs):=by
 obtain⟨t,pt,rt⟩:=he
 refine XS'.out ⟨_,zb5 hN hi hx pt hs hf,fun H0 F0 ρ σ H F Dn R o=>rt H0 F0 ρ σ H F _ R ?_⟩
 unfold vh at o
 cases e:fs ρ with
 | ok d=>rw[e] at o;exact fun vs H' F' gg q p hp=>o _ _ F' ((R.grow gg).setO hp q) gg.ff
 | ex n=>rw[e] at o;exact o
 | no=>rw[e] at o;exact o
theorem zdK {i:Nat}{o:Expr}{apos cpos:Pos}(ho:PE X o (zcE i))(ha:XE X cl E e fa)(m:Mth X o e "append" apos cpos)(hs:swapsWith (.Call (.Attribute o "append" apos) [e] [] cpos) none pos.line X.env=pure false:=by rfl):XS X cl E (.Expr (.Call (.Attribute o "append" apos) [e] [] cpos) pos) (zbB i fa):=by
 obtain⟨u,pu,ru⟩:=ha.ex
 refine XS'.out ⟨_,zcs (zeq PySem.F.plainAttrs_list PySem.F.slot_list_append PySem.F.type_list_append zc0 ho (xK pu uD m.hs) m.base m.few m.line m.hs m.plain) hs,fun H0 F0 ρ σ H F Dn R oo=>?_⟩
 unfold zbB at oo
 cases hw:owL ρ i with
 | none=>rw[hw] at oo;exact oo.elim
 | some ds =>
  rw[hw] at oo
  have hd:=zcM hw
  obtain⟨a,vs,h1,h2,h3,h4,h5⟩:=R.ow i ds hd
  refine⟨.ref a,h1,.inl ⟨rfl,vs,.inl (.inl h2)⟩,ru H0 F0 ρ σ H F _ R ?_⟩
  cases e:fa ρ with
  | ok d =>
   simp only[e] at oo
   split at oo
   ·rename_i hl
    intro v H1 F1 g q
    have R1:=R.grow g
    refine⟨a,vs,v,rfl,rfl,g.hh _ _ h2,?_,?_⟩
    ·rw[h5.length,sizeLine_eq];omega
    ·exact oo _ _ F1 (R1.put hd h1 ((h5.mono g.ff).append (.cons q .nil))) g.ff
   ·exact oo.elim
  | ex n=>simp only[e] at oo;exact oo
  | no=>simp only[e] at oo;exact oo.elim
def zcX (i j:Nat)(f:Rho→Rs D):Rho→Out:=fun ρ=>match owL ρ i with
 | some ds=>(match f ρ with | .ok (.int k)=>(if 0≤k∧k<1000000 then(match ds[k.toNat]? with|some d=>.nx ((ρ.set i (.ow (ds.eraseIdx k.toNat))).set j (.fz d))|none=>.no) else .no) | .ex n=>.ex n|_=>.no)
 | none=>.no
theorem Dts.erase {K:PySem.W.Frag}{F:Hp}:∀{vs:List V}{ds:List D} (k:Nat),Dts K cl F vs ds→Dts K cl F (vs.eraseIdx k) (ds.eraseIdx k)
 | _,_,_,.nil=>.nil
 | _,_,0,.cons _ r=>r
 | _,_,k+1,.cons q r=>.cons q (Dts.erase k r)
theorem xs_pop {i j:Nat}{o:Expr}{y:Str}{py apos cpos:Pos}(hN:X.N.Nodup)(hj:X.N[j]? = some y)(hy:Loc X.env.scope y)(ho:PE X o (zcE i))(ha:XE X cl E e fa)(m:Mth X o e "pop" apos cpos)(hs:swapsWith (.Call (.Attribute o "pop" apos) [e] [] cpos) (some (.Name y py)) pos.line X.env=pure false:=by rfl)(hf:X.fn y=true∨X.env.scope.names.lookup y=some .local:=by first|exact .inl rfl|exact .inr rfl|assumption) :
  XS X cl E (.Assign [.Name y py] (.Call (.Attribute o "pop" apos) [e] [] cpos) pos) (zcX i j fa):=by
 obtain⟨u,pu,ru⟩:=ha.ex
 refine XS'.out ⟨_,zb5 hN hj hy (zeq PySem.F.plainAttrs_list PySem.F.slot_list_pop PySem.F.type_list_pop mt_popAt ho (xK pu uD m.hs) m.base m.few m.line m.hs m.plain) hs hf,fun H0 F0 ρ σ H F Dn R oo=>?_⟩
 unfold zcX at oo
 cases hw:owL ρ i with
 | none=>rw[hw] at oo;exact oo.elim
 | some ds =>
  rw[hw] at oo
  have hd:=zcM hw
  obtain⟨a,vs,h1,h2,h3,h4,h5⟩:=R.ow i ds hd
  refine⟨.ref a,h1,.inl ⟨rfl,vs,.inl (.inl h2)⟩,ru H0 F0 ρ σ H F _ R ?_⟩
  cases e:fa ρ with
  | ok d =>
   simp only[e] at oo
   intro v H1 F1 g q
   cases q with
   | int k =>
    dsimp only at oo
    split at oo
    ·rename_i hk
     cases hg:ds[k.toNat]? with
     | none=>simp only[hg] at oo;exact oo.elim
     | some d =>
      simp only[hg] at oo
      have R1:=R.grow g
      have h5':=h5.mono g.ff
      obtain⟨w,hw1,hw2⟩:=h5'.get' hg
      have hlt:k.toNat<vs.length:=(List.getElem?_eq_some_iff.mp hw1).1
      refine⟨a,vs,k,k.toNat,w,rfl,rfl,g.hh _ _ h2,by omega,by omega,?_,hw1,?_⟩
      ·exact seqIndex_of hk.1 (by omega)
      ·exact oo _ _ F1 ((R1.put hd h1 (h5'.erase _)).set hw2) g.ff
    ·exact oo.elim
   | _=>exact oo.elim
  | ex n=>simp only[e] at oo;exact oo
  | no=>simp only[e] at oo;exact oo.elim
end
end L2
namespace L2
open PySem PySem.Spec PyProof.Rows
section
variable {X:Cx}{cl:Nat→Addr}{E:XK}{e o a b c:Expr}{es:List Expr}{fa fb fc:Rho→Rs D}{fs:Rho→Rs (List D)}{x y:Str}{p pos:Pos}
def fCh (g g':D→D→Option D)(fa fb fc:Rho→Rs D):Rho→Rs D:=fun ρ=>(fa ρ).bind fun a=>(fb ρ).bind fun b=>(lf (g a b)).bind fun z=>(tru z).bind fun k=>if k=true then(fc ρ).bind fun c=>lf (g' b c) else .ok (.bl false)
theorem zcZ {H0 F0 H F:Hp}{ρ:Rho}{σ:St}{r r':R2}{g g':D→D→Option D}{ta tb tc:TE}{Q:VK}(hg:Op2 X.K cl r g)(hg':Op2 X.K cl r' g')(R:Rl X.K cl H0 F0 ρ σ H F)
  (ra:∀(H0 F0:Hp) (ρ:Rho) (σ:St) (H F:Hp) (Q:VK),Rl X.K cl H0 F0 ρ σ H F→OutE X.K cl E H0 F H (fa ρ) Q→ta σ H Q) (rb:∀(H0 F0:Hp) (ρ:Rho) (σ:St) (H F:Hp) (Q:VK),Rl X.K cl H0 F0 ρ σ H F→OutE X.K cl E H0 F H (fb ρ) Q→tb σ H Q) (rc:∀(H0 F0:Hp) (ρ:Rho) (σ:St) (H F:Hp) (Q:VK),Rl X.K cl H0 F0 ρ σ H F→OutE X.K cl E H0 F H (fc ρ) Q→tc σ H Q)
  (o:OutE X.K cl E H0 F H (fCh g g' fa fb fc ρ) Q):tChain r r' ta tb tc σ H Q:=by
 refine ra H0 F0 ρ σ H F _ R (OutE.fst o fun d v H1 F1 g1 q o1=>?_)
 refine rb H0 F0 ρ σ H1 F1 _ (R.grow g1) (OutE.fst o1 fun d2 v2 H2 F2 g2 q2 o2=>?_)
 have R2:=(R.grow g1).grow g2
 cases hz:g d d2 with
 | none=>rw[hz] at o2;exact o2.elim
 | some z =>
  rw[hz] at o2
  refine hg F2 H2 v v2 d d2 z _ R2.fh (q.mono g2.ff) q2 hz fun w H3 F3 g3 q3=>?_
  obtain⟨k,rfl,o3⟩:=OutE.tru (F1:=F3) (H1:=H3) q3 (OutE.grow (r:=(tru z).bind _) o2 g3)
  refine⟨k,rfl,?_⟩
  have R3:=R2.grow g3
  cases k with
  | false=>exact o3.okI R3.fh (.bl _)
  | true =>
   refine rc H0 F0 ρ σ H3 F3 _ R3 (OutE.fst o3 fun d4 v4 H4 F4 g4 q4 o4=>?_)
   obtain⟨z2,hz2,k2⟩:=o4.lf
   exact hg' F4 H4 v2 v4 d2 d4 z2 _ (R3.grow g4).fh (q2.mono (g3.trans g4).ff) q4 hz2 k2
theorem xe_chain {op op':CmpOp}{r r':R2}{g g':D→D→Option D}(ho:OpR X (compareOp op) r)(ho':OpR X (compareOp op') r')(hg:Op2 X.K cl r g)(hg':Op2 X.K cl r' g')(ha:XE X cl E a fa)(hb:XE X cl E b fb)(hc:XE X cl E c fc)(hm:lastMarks [op,op'] [b,c]=false:=by with_unfolding_all rfl):XE X cl E (.Compare a [op,op'] [b,c] pos) (fCh g g' fa fb fc):=by
 obtain⟨t,pt,rt⟩:=ha.ex
 obtain⟨u,pu,ru⟩:=hb.ex
 obtain⟨w,pw,rw'⟩:=hc.ex
 exact XE'.out ⟨_,pe_chain ho ho' pt pu pw hm,fun H0 F0 ρ σ H F Q R o=>zcZ hg hg' R rt ru rw' o⟩
theorem xt_chain {op op':CmpOp}{r r':R2}{g g':D→D→Option D}(ho:OpR X (compareOp op) r)(ho':OpR X (compareOp op') r')(hg:Op2 X.K cl r g)(hg':Op2 X.K cl r' g')(ha:XE X cl E a fa)(hb:XE X cl E b fb)(hc:XE X cl E c fc)(hm:lastMarks [op,op'] [b,c]=false:=by with_unfolding_all rfl):XT X cl E (.Compare a [op,op'] [b,c] pos) (bT (fCh g g' fa fb fc)):=by
 obtain⟨t,pt,rt⟩:=ha.ex
 obtain⟨u,pu,ru⟩:=hb.ex
 obtain⟨w,pw,rw'⟩:=hc.ex
 exact XT'.out ⟨_,pt_chain ho ho' pt pu pw hm,fun H0 F0 ρ σ H F Q R o=>zcZ hg hg' R rt ru rw' (OutB.bT R o)⟩
end
end L2
namespace L2
open PySem PySem.Spec PyProof.Rows
def fL1 (g:D→Option (List D))(fa:Rho→Rs D):Rho→Rs (List D):=fun ρ=>(fa ρ).bind fun a=>lf' (g a)
section
variable {X:Cx}{cl:Nat→Addr}{E:XK}{e o a b c:Expr}{es:List Expr}{fa fb fc:Rho→Rs D}{fs:Rho→Rs (List D)}{x y:Str}{p pos:Pos}
def zax (i:Nat):Rho→Out:=fun ρ=>.nx (ρ.set i (.od []))
def odL (ρ:Rho)(i:Nat):Option (List (List Nat×D)):=match ρ[i]? with|some (.od ds)=>some ds|_=>none
def putD (kvs:List (List Nat×D))(k:List Nat)(v:D):List (List Nat×D):=if (kvs.any fun kv=>decide (kv.1=k))=true then kvs.map (fun kv=>if kv.1=k then(kv.1,v) else kv) else kvs++[(k,v)]
theorem Dks.any {K:PySem.W.Frag}{F:Hp}{k:List Nat}:∀{vs:List (Key×V)}{ds:List (List Nat×D)},Dks K cl F vs ds→(vs.any fun kv=>decide (kv.1=Sum.inr (T k)))=(ds.any fun kv=>decide (kv.1=k))
 | _,_,.nil=>rfl
 | _,_,.cons (l:=l) ok q r=>by
  rw[List.any_cons,List.any_cons,Dks.any r]
  congr 1
  by_cases h:l=k
  ·subst h;simp
  ·rw[decide_eq_false h,decide_eq_false]
   intro z;injection z with z;exact h (T_inj z)
theorem Dks.mapPut {K:PySem.W.Frag}{F:Hp}{k:List Nat}{v:V}{d:D}(hv:Dt K cl F v d):∀{vs:List (Key×V)}{ds:List (List Nat×D)},Dks K cl F vs ds→Dks K cl F (vs.map fun kv=>if kv.1=Sum.inr (T k) then(kv.1,v) else kv) (ds.map fun kv=>if kv.1=k then(kv.1,d) else kv)
 | _,_,.nil=>.nil
 | _,_,.cons (l:=l) ok q r=>by
  rw[List.map_cons,List.map_cons]
  by_cases h:l=k
  ·subst h;rw[if_pos rfl,if_pos rfl];exact .cons ok hv (Dks.mapPut hv r)
  ·have h':¬((Sum.inr (T l):Key)=Sum.inr (T k)):=fun z=>by injection z with z;exact h (T_inj z)
   rw[if_neg h,if_neg h'];exact .cons ok q (Dks.mapPut hv r)
theorem Dks.snoc {K:PySem.W.Frag}{F:Hp}{k:List Nat}{v:V}{d:D}(hk:TxtOk (T k))(hv:Dt K cl F v d):∀{vs:List (Key×V)}{ds:List (List Nat×D)},Dks K cl F vs ds→Dks K cl F (vs++[(Sum.inr (T k),v)]) (ds++[(k,d)])
 | _,_,.nil=>.cons hk hv .nil
 | _,_,.cons ok q r=>.cons ok q (Dks.snoc hk hv r)
theorem Dks.put {K:PySem.W.Frag}{F:Hp}{k:List Nat}{v:V}{d:D}{vs:List (Key×V)}{ds:List (List Nat×D)}(h:Dks K cl F vs ds)(hk:TxtOk (T k))(hv:Dt K cl F v d):Dks K cl F (putK vs (Sum.inr (T k)) v) (putD ds k d):=by
 unfold putK putD
 rw[h.any]
 split
 ·exact h.mapPut hv
 ·exact h.snoc hk hv
theorem Dks.length {K:PySem.W.Frag}{F:Hp}:∀{vs:List (Key×V)}{ds:List (List Nat×D)},Dks K cl F vs ds→vs.length=ds.length
 | _,_,.nil=>rfl
 | _,_,.cons _ _ r=>by simp[r.length]
theorem Dks.keys {K:PySem.W.Frag}{F:Hp}:∀{vs:List (Key×V)}{ds:List (List Nat×D)},Dks K cl F vs ds→vs.map (·.1)=(ds.map (·.1)).map fun l=>(Sum.inr (T l):Key)
 | _,_,.nil=>rfl
 | _,_,.cons _ _ r=>by simp[r.keys]
def sPut (i:Nat)(fk fv:Rho→Rs D):Rho→Out:=fun ρ=>match odL ρ i with
 | some ds=>(match fv ρ with
  | .ok v=>(match fk ρ with | .ok (.str k)=>if ds.length<1000000 then .nx (ρ.set i (.od (putD ds k v))) else .no | .ex n=>.ex n|_=>.no)
  | .ex n=>.ex n
  | .no=>.no)
 | none=>.no
def fSD (i:Nat):Rho→Rs (List D):=fun ρ=>match odL ρ i with
 | some ds=>if ds.length<64 then .ok ((My.sortF (ds.map (·.1))).map .str) else .no
 | none=>.no
end
end L2
namespace L2
open PySem PySem.Spec PyProof.Rows
def sRs (n:Nat)(fs:Rho→Rs (List D)):Rho→Out:=fun ρ=>match fs ρ with | .ok ds=>if ds.length≤3 then .ex n else .no | .ex m=>.ex m | .no=>.no
section
variable {P:Program}{w:World}{K:PySem.W.Frag}{mg:Str→Option Value}{base:Heap}{N:List Str}{qual:Str}{scope:Scope}{f:Addr}{cd:Value}{A:Around}{outer:List Env}{s₁:Shared}{H₁:Hp}{E:XK}{cl:Nat→Addr}
theorem zcF {x:Str}{e₀:Expr}{np cpos pos:Pos}{fs:Rho→Rs (List D)}{n:Nat}(O:Own K mg x)(hO:O.C=cl n)(hg:Gl (zau (CX1 P w) P w K mg base N qual scope f cd A outer s₁ H₁ E) x)(ha:XA (zau (CX1 P w) P w K mg base N qual scope f cd A outer s₁ H₁ E) cl E [e₀] fs)
  (he:starEach [e₀] (zau (CX1 P w) P w K mg base N qual scope f cd A outer s₁ H₁ E).env=(false,eval e₀ (zau (CX1 P w) P w K mg base N qual scope f cd A outer s₁ H₁ E).env)::starEach [] (zau (CX1 P w) P w K mg base N qual scope f cd A outer s₁ H₁ E).env) (hd:(x == ("__debug__" : Str))=false:=by decide) :
  XS (zau (CX1 P w) P w K mg base N qual scope f cd A outer s₁ H₁ E) cl E (.Raise (some (.Call (.Name x np) [e₀] [] cpos)) none pos) (sRs n fs):=by
 obtain⟨t,pt,rt⟩:=ha.ex
 refine XS'.out ⟨_,ps_raise O hg pt he rfl hd,fun H0 F0 ρ σ H F Dn R o=>rt H0 F0 ρ σ H F _ R ?_⟩
 unfold sRs at o
 cases e:fs ρ with
 | ok ds =>
  rw[e] at o
  intro vs H' F' g q
  dsimp only at o
  split at o
  ·rename_i hl
   refine⟨q.length▸hl,?_⟩
   rw[hO]
   exact o H' (R.gr.hh.trans g.hh)
  ·exact o.elim
 | ex n=>rw[e] at o;exact o
 | no=>rw[e] at o;exact o
end
def yJ (m:Nat)(g:Rho→Out)(ds:List D):Rs D:=match g (ds.map .fz++List.replicate (m - ds.length) .no) with | .nx _=>.ok .non | .rt d=>.ok d | .ex n=>.ex n|_=>.no
theorem Rl.start {K:PySem.W.Frag}{cl:Nat→Addr}{H F:Hp}{N:List Str}{vs:List V}{ds:List D}(s:Same F H)(q:Dts K cl F vs ds):Rl K cl H F (ds.map .fz++List.replicate (N.length - ds.length) .no) (L2.start N vs) H F:=by
 have shape:∀(i:Nat) (s:Sl),(ds.map Sl.fz++List.replicate (N.length - ds.length) Sl.no)[i]? = some s→(∃d,s=.fz d∧ds[i]? = some d)∨s=.no:=fun i s e=>by
  rcases Nat.lt_or_ge i ds.length with h|h
  ·rw[List.getElem?_append_left (by simpa using h),List.getElem?_map,List.getElem?_eq_getElem h] at e
   exact .inl ⟨ds[i],(Option.some.inj e).symm,List.getElem?_eq_getElem h⟩
  ·rw[List.getElem?_append_right (by simpa using h),List.getElem?_replicate] at e
   split at e
   ·exact .inr (Option.some.inj e).symm
   ·cases e
 refine⟨Gr.refl s,by unfold L2.start;simp[q.length],fun i d e=>?_,fun i d e=>?_,fun i d e=>?_,fun i j s t a z1 z2 o1 o2 e1 e2=>?_⟩
 ·rcases shape i _ e with⟨d',e1,e2⟩|e1
  ·injection e1 with e1;subst e1
   obtain⟨v,h1,h2⟩:=q.get' e2
   refine⟨v,?_,h2⟩
   unfold L2.start
   have hi:=(List.getElem?_eq_some_iff.mp h1).1
   rw[List.getElem?_append_left (by simpa using hi),List.getElem?_map,h1];rfl
  ·cases e1
 ·rcases shape i _ e with⟨d',e1,e2⟩|e1 <;>cases e1
 ·rcases shape i _ e with⟨d',e1,e2⟩|e1 <;>cases e1
 ·rcases shape i _ z1 with⟨d',rfl,_⟩|rfl <;>cases o1
theorem fnD {P:Program}{w:World}{K:PySem.W.Frag}{mg:Str→Option Value}{base:Heap}{cl:Nat→Addr}{x qual:Str}{st:Stmt}{f:Addr}{fd:FuncData}{N ps:List Str}{k m n:Nat}{g:Rho→Out}(Fu:Fun K x qual st f fd)(S:FnScope N ps (zu st))(hm:N.length=m)(hn:ps.length=n)
  (hb:∀(cdv:Value) (A:Around) (outer:List Env) (s:Shared) (H:Hp) (E:XK),Room k (A.deeper (envOfC qual (zu st) s.heap.objs.size f cdv))→XSs (zau (CX1 P w) P w K mg base N qual (zu st) f cdv A outer s H E) cl E (wH st) g):FnOk P w K mg base (CX1 P w) (k+1) f fd ps (spD K cl (yJ m g) n):=by
 subst hm hn
 refine Fu.okX S (fun vs H Q E h=>h.choose_spec.choose_spec.2.2.1) fun cdv A outer s H vs Q E hr h=>?_
 obtain⟨F,ds,sm,dq,hl,o⟩:=h
 refine⟨_,hb cdv A outer s H E hr,H,F,_,F,Rl.start (N:=N) sm dq,?_⟩
 unfold yJ at o
 cases e:g (ds.map .fz++List.replicate (N.length - ds.length) .no) with
 | nx ρ=>rw[e] at o;exact fun σ H' F' R _=>o .non H' F' R.gr .non
 | rt d=>rw[e] at o;exact fun v H' F' gg q=>o v H' F' gg q
 | bk ρ=>rw[e] at o;exact o.elim
 | ct ρ=>rw[e] at o;exact o.elim
 | ex n=>rw[e] at o;exact o
 | no=>rw[e] at o;exact o
def forZ (i j:Nat)(g:Rho→Out):List D→List D→Rho→Out
 | d::ds,e::es,ρ=>match g ((ρ.set i (.fz d)).set j (.fz e)) with | .nx ρ'=>forZ i j g ds es ρ' | .ct ρ'=>forZ i j g ds es ρ' | .bk ρ'=>.nx ρ'|o=>o
 | _,_,ρ=>.nx ρ
def ql (i j:Nat)(fa fb:Rho→Rs D)(g:Rho→Out):Rho→Out:=fun ρ=>match (fa ρ),(fb ρ) with
 | .ok (.tup ds),.ok (.tup es)=>forZ i j g ds es ρ
 | _,_=>.no
section
variable {X:Cx}{cl:Nat→Addr}{E:XK}{a b:Expr}{fa fb:Rho→Rs D}{g:Rho→Out}{p pos zpos tp px py:Pos}{x y:Str}{k:Nat}{body:List Stmt}
theorem sForZ_inv {K:PySem.W.Frag}{H0 F0 F:Hp}{i j:Nat}{ρ:Rho}{Dn:Ends}(o:OutS K cl E H0 F0 F (ql i j fa fb g ρ) Dn):∃ds es,fa ρ=.ok (.tup ds)∧fb ρ=.ok (.tup es)∧OutS K cl E H0 F0 F (forZ i j g ds es ρ) Dn:=by
 unfold ql at o
 split at o
 ·rename_i ds es e1 e2;exact⟨ds,es,e1,e2,o⟩
 ·exact o.elim
theorem xs_forZ {i j:Nat}(hp:PassesOwn (model X.prog X.w) X.A X.env X.xe)(hc:X.calm=true)(hz:Gl X "zip")(hm:X.mg "zip" = none)(ha:XE X cl E a fa)(hb:XE X cl E b fb)(hg:PG X (.Tuple [.Name x px,.Name y py] k tp) (gTup X.K 2 (za9 (wC i) (za9 (wC j) gNil))))(hbd:XSs X cl E body g)(hs:starEach [a,b] X.env=[(false,eval a X.env),(false,eval b X.env)])(hs2:starEach [b] X.env=[(false,eval b X.env)]):XS X cl E (.For (.Tuple [.Name x px,.Name y py] k tp) (.Call (.Name "zip" p) [a,b] [] zpos) body [] pos) (ql i j fa fb g):=by
 obtain⟨t,pt,rt⟩:=ha.ex
 obtain⟨u,pu,ru⟩:=hb.ex
 obtain⟨w,pw,rw'⟩:=hbd.ex
 refine XS'.out ⟨_,ps_for hp hc (pi_ziptt hz hm pt pu hs hs2) hg pw,fun H0 F0 ρ σ H F Dn R o=>rt H0 F0 ρ σ H F _ R ?_⟩
 obtain⟨ds,es,e1,e2,o'⟩:=sForZ_inv o
 rw[e1]
 intro v1 H1 F1 g1 q1
 have R1:=R.grow g1
 refine ru H0 F0 ρ σ H1 F1 _ R1 ?_
 rw[e2]
 intro v2 H2 F2 g2 q2
 have R2:=R1.grow g2
 cases q1 with
 | tup sq1 dq1 =>
  cases q2 with
  | tup sq2 dq2 =>
   have sq1':=g2.ff.seqT sq1
   have dq1':=dq1.mono g2.ff
   refine⟨_,_,_,_,rfl,R2.fh.seqT sq1',R2.fh.seqT sq2,?_⟩
   refine for_zip (fun m σ' H'=>∃ρ' F',Rl X.K cl H0 F0 ρ' σ' H' F'∧Same F2 F'∧OutS X.K cl E H0 F0 F' (forZ i j g (ds.drop m) (es.drop m) ρ') Dn) ⟨ρ,F2,R2,Same.refl _,o'.grow (g1.ff.trans g2.ff)⟩ (fun m σ' H' ⟨ρ',F',R',s',_⟩=>⟨(s'.trans R'.fh).seqT sq1',(s'.trans R'.fh).seqT sq2⟩) ?_ ?_
   ·rintro m z1 z2 pp σ' H' hx hy hpp ⟨ρ',F',R',s',o3⟩
    obtain⟨c1,hd1,qd1⟩:=dq1'.get hx
    obtain⟨c2,hd2,qd2⟩:=dq2.get hy
    have r1:ds.drop m=c1::ds.drop (m+1):=by
     obtain⟨hk,e3⟩:=List.getElem?_eq_some_iff.mp hd1
     rw[List.drop_eq_getElem_cons hk,e3]
    have r2:es.drop m=c2::es.drop (m+1):=by
     obtain⟨hk,e3⟩:=List.getElem?_eq_some_iff.mp hd2
     rw[List.drop_eq_getElem_cons hk,e3]
    rw[r1,r2] at o3
    unfold forZ at o3
    have R4:=R'.grow (Gr.newO (o:=.tup [z1,z2]) R'.fh hpp)
    refine⟨pp,[z1,z2],rfl,.inl (.inl zM),rfl,z1,_,rfl,z2,_,rfl,rfl,rw' H0 F0 _ _ _ F' _ ((R4.set (qd1.mono s')).set (qd2.mono s')) ?_⟩
    cases e4:g ((ρ'.set i (.fz c1)).set j (.fz c2)) with
    | nx ρ2=>simp only[e4] at o3;exact fun σ2 H2 F2 R2 s2=>⟨ρ2,F2,R2,s'.trans s2,o3.grow s2⟩
    | ct ρ2=>simp only[e4] at o3;exact fun σ2 H2 F2 R2 s2=>⟨ρ2,F2,R2,s'.trans s2,o3.grow s2⟩
    | bk ρ2=>simp only[e4] at o3;exact o3
    | rt d=>simp only[e4] at o3;exact o3
    | ex n=>simp only[e4] at o3;exact o3
    | no=>simp only[e4] at o3;exact o3
   ·rintro σ' H' ⟨ρ',F',R',s',o3⟩
    rw[dq1'.length,dq2.length] at o3
    have e5:forZ i j g (ds.drop (min ds.length es.length)) (es.drop (min ds.length es.length)) ρ'=.nx ρ':=by
     rcases Nat.le_total ds.length es.length with h|h
     ·rw[Nat.min_eq_left h,List.drop_of_length_le (Nat.le_refl ds.length)];unfold forZ;rfl
     ·rw[Nat.min_eq_right h,List.drop_of_length_le (Nat.le_refl es.length)]
      cases ds.drop es.length <;>(unfold forZ;rfl)
    rw[e5] at o3
    exact o3 σ' H' F' R' (Same.refl _)
def qm (ft:Rho→Rs Bool)(fe:Rho→Rs D)(ρ0:Rho):List D→List D→Rs (List D)
 | d::ds,c::cs=>match ft ((ρ0.set 0 (.fz d)).set 1 (.fz c)) with
  | .ok true=>(match fe ((ρ0.set 0 (.fz d)).set 1 (.fz c)) with | .ok e=>(qm ft fe ρ0 ds cs).bind fun es=>.ok (e::es)|_=>.no)
  | .ok false=>qm ft fe ρ0 ds cs
  | _=>.no
 | _,_=>.ok []
def fCz (fa fb:Rho→Rs D)(ft:Rho→Rs Bool)(fe:Rho→Rs D)(caps:List Nat):Rho→Rs (List D):=fun ρ=>match fa ρ,fb ρ with
 | .ok (.tup ds),.ok (.tup cs)=>(match qm ft fe (xN 2 caps ρ) ds cs with | .ok es=>if ds.length≤1000000 then .ok es else .no|_=>.no)
 | _,_=>.no
variable {scope:Scope}{caps:List Nat}{elt:Expr}{ifs:List Expr}{ft:Rho→Rs Bool}{fe:Rho→Rs D}
structure CompZ (X:Cx)(cl:Nat→Addr)(scope:Scope)(x y:Str)(caps:List Nat)(tg:Expr)(ifs:List Expr)(elt:Expr)(ft:Rho→Rs Bool)(fe:Rho→Rs D):Prop where
 tgt:∀pins C ex s H,PG (cxC X pins scope [x,y] caps C ex s H) tg (gTup X.K 2 (za9 (wC 0) (za9 (wC 1) gNil)))
 tst:∀pins C ex s H,XTs (cxC X pins scope [x,y] caps C ex s H) cl E0 ifs ft
 elm:∀pins C ex s H,XE (cxC X pins scope [x,y] caps C ex s H) cl E0 elt fe
theorem fCz_inv {K:PySem.W.Frag}{H0 F H:Hp}{ρ:Rho}{Q:List V→Hp→Prop}(o:OutA K cl E H0 F H (fCz fa fb ft fe caps ρ) Q):∃ds cs es,fa ρ=.ok (.tup ds)∧fb ρ=.ok (.tup cs)∧qm ft fe (xN 2 caps ρ) ds cs=.ok es∧ds.length≤1000000∧OutA K cl E H0 F H (.ok es) Q:=by
 unfold fCz at o
 split at o
 ·rename_i ds cs e1 e2
  split at o
  ·rename_i es e3
   split at o
   ·rename_i hl;exact⟨ds,cs,es,e1,e2,e3,hl,o⟩
   ·exact o.elim
  ·exact o.elim
 ·exact o.elim
theorem xl_compZ (ok:CompOk X scope caps)(hc:X.calm=true)(hz:Gl X "zip")(hm:X.mg "zip" = none)(ha:XE X cl E a fa)(hb:XE X cl E b fb)(CI:CompZ X cl scope x y caps (.Tuple [.Name x px,.Name y py] k tp) ifs elt ft fe)(hs:starEach [a,b] X.env=[(false,eval a X.env),(false,eval b X.env)])(hs2:starEach [b] X.env=[(false,eval b X.env)]) :
  XL X cl E (.ListComp elt [⟨.Tuple [.Name x px,.Name y py] k tp,.Call (.Name "zip" p) [a,b] [] zpos,ifs,0⟩] scope pos) (fCz fa fb ft fe caps):=by
 obtain⟨t,pt,rt⟩:=ha.ex
 obtain⟨u,pu,ru⟩:=hb.ex
 refine⟨_,zcr ok hc (pi_ziptt hz hm pt pu hs hs2) (g:=gTup X.K 2 (za9 (wC 0) (za9 (wC 1) gNil))) (tt:=tDB X.K cl E0 ft) (te:=tDE X.K cl E0 fe) ⟨CI.tgt,CI.tst,CI.elm⟩,fun H0 F0 ρ σ H F Q R o=>rt H0 F0 ρ σ H F _ R ?_⟩
 obtain⟨ds,cs,es,e1,e2,hcz,hl,o⟩:=fCz_inv o
 rw[e1]
 intro v1 H1 F1 g1 q1
 have R1:=R.grow g1
 refine ru H0 F0 ρ σ H1 F1 _ R1 ?_
 rw[e2]
 intro v2 H2 F2 g2 q2
 have R2:=R1.grow g2
 cases q1 with
 | tup sq1 dq1 =>
  cases q2 with
  | tup sq2 dq2 =>
   have sq1':=g2.ff.seqT sq1
   have dq1':=dq1.mono g2.ff
   refine⟨_,_,_,_,rfl,R2.fh.seqT sq1',R2.fh.seqT sq2,?_⟩
   refine turns_zip (sz6 (dq1'.length▸hl)) (fun m ys H'=>∃F' es1 es2,Gr F2 H2 F' H'∧Dts X.K cl F' ys es1∧ys.length≤m∧es=es1++es2∧qm ft fe (xN 2 caps ρ) (ds.drop m) (cs.drop m)=.ok es2) ⟨F2,[],es,Gr.refl R2.fh,.nil,Nat.le_refl _,rfl,hcz⟩ (fun m ys H' ⟨F',_,_,gg,_,h1,_⟩=>⟨(gg.ff.trans gg.fh).seqT sq1',(gg.ff.trans gg.fh).seqT sq2,h1⟩) ?_ ?_
   ·rintro m z1 z2 pp ys H' hx hy hpp ⟨F',es1,es2,gg,qs,hly,rfl,hc'⟩
    obtain⟨c1,hd1,qd1⟩:=dq1'.get hx
    obtain⟨c2,hd2,qd2⟩:=dq2.get hy
    have r1:ds.drop m=c1::ds.drop (m+1):=by
     obtain⟨hk,e3⟩:=List.getElem?_eq_some_iff.mp hd1
     rw[List.drop_eq_getElem_cons hk,e3]
    have r2:cs.drop m=c2::cs.drop (m+1):=by
     obtain⟨hk,e3⟩:=List.getElem?_eq_some_iff.mp hd2
     rw[List.drop_eq_getElem_cons hk,e3]
    rw[r1,r2] at hc'
    unfold qm at hc'
    have gz:Gr F' H' F' (upd H' pp (.tup [z1,z2])):=Gr.newO (gg.fh) hpp
    have Rz:=((R2.grow gg).grow gz).cap [x,y] caps
    have Rw:Rl X.K cl (upd H' pp (.tup [z1,z2])) F' (((xN 2 caps ρ).set 0 (.fz c1)).set 1 (.fz c2)) (((zbC [x,y] caps σ).set 0 (some z1)).set 1 (some z2)) (upd H' pp (.tup [z1,z2])) F':=(Rz.set (qd1.mono gg.ff)).set (qd2.mono gg.ff)
    refine⟨pp,[z1,z2],rfl,.inl (.inl zM),rfl,z1,_,rfl,z2,_,rfl,rfl,?_,_,F',_,F',Rw,?_⟩
    ·exact(Kps.set rfl).trans (Kps.set rfl)
    ·cases e3:ft (((xN 2 caps ρ).set 0 (.fz c1)).set 1 (.fz c2)) with
     | ok bb =>
      rw[e3] at hc'
      intro H3 F3 g3
      cases bb with
      | true =>
       rw[if_pos rfl]
       cases e4:fe (((xN 2 caps ρ).set 0 (.fz c1)).set 1 (.fz c2)) with
       | ok ee =>
        simp only[e4] at hc'
        refine⟨_,F',_,F3,Rw.grow g3,?_⟩
        rw[e4]
        intro yy H4 F4 g4 qy
        cases e5:qm ft fe (xN 2 caps ρ) (ds.drop (m+1)) (cs.drop (m+1)) with
        | ok es3 =>
         rw[e5] at hc'
         injection hc' with hc'
         exact⟨F4,es1++[ee],es3,gg.trans (gz.trans (g3.trans g4)),(qs.mono (g3.ff.trans g4.ff)).append (.cons qy .nil),by simp;exact hly,by rw[← hc',List.append_assoc];rfl,rfl⟩
        | ex n=>rw[e5] at hc';cases hc'
        | no=>rw[e5] at hc';cases hc'
       | ex n=>simp only[e4] at hc';cases hc'
       | no=>simp only[e4] at hc';cases hc'
      | false =>
       rw[if_neg Bool.false_ne_true]
       exact⟨F3,es1,es2,gg.trans (gz.trans g3),qs.mono g3.ff,Nat.le_succ_of_le hly,rfl,hc'⟩
     | ex n=>rw[e3] at hc';cases hc'
     | no=>rw[e3] at hc';cases hc'
   ·rintro ys H' ⟨F',es1,es2,gg,qs,hly,rfl,hc'⟩
    rw[dq1'.length,dq2.length] at hc'
    have e5:qm ft fe (xN 2 caps ρ) (ds.drop (min ds.length cs.length)) (cs.drop (min ds.length cs.length))=.ok []:=by
     rcases Nat.le_total ds.length cs.length with h|h
     ·rw[Nat.min_eq_left h,List.drop_of_length_le (Nat.le_refl ds.length)];unfold qm;rfl
     ·rw[Nat.min_eq_right h,List.drop_of_length_le (Nat.le_refl cs.length)]
      cases ds.drop cs.length <;>(unfold qm;rfl)
    rw[e5] at hc'
    injection hc' with hc'
    rw[← hc',List.append_nil] at o
    exact o ys H' F' (g1.trans (g2.trans gg)) qs
end
end L2
namespace L2
open PySem PySem.Spec PyProof.Rows
def negI:D→Option D
 | .int i=>some (.int (-i))
 | _=>none
def fFl (i:Nat)(f:Rho→Rs D):Rho→Rs D:=fun ρ=>match owL ρ i with
 | some ds=>(match f (ρ.set i (.fz (.lst ds))) with | .ok d=>if d.fl=true then .ok d else .no | .ex n=>.ex n | .no=>.no)
 | none=>.no
section
variable {X:Cx}{cl:Nat→Addr}{E:XK}{e a b:Expr}{fa fb:Rho→Rs D}{pos:Pos}{st:Stmt}
theorem xs_never:XS X cl E st (fun _=>.no):=XS'.out ⟨_,ps_never,fun H0 F0 ρ σ H F Dn R o=>o⟩
theorem xe_neg (h:XE X cl E a fa):XE X cl E (.UnaryOp .USub a pos) (f1 negI fa):=by
 obtain⟨t,pt,rt⟩:=h.ex
 refine XE'.out ⟨_,pe_un un_neg pt,fun H0 F0 ρ σ H F Q R o=>rt H0 F0 ρ σ H F _ R (OutE.fst o fun d v H1 F1 g q o1=>?_)⟩
 obtain⟨z,hz,k⟩:=o1.lf
 cases q with
 | int i=>obtain rfl:=Option.some.inj hz;exact⟨i,rfl,k _ _ _ (Gr.refl (R.grow g).fh) (.int _)⟩
 | _=>cases hz
theorem Dt.flatAny {K:PySem.W.Frag}{F F':Hp}{v:V}{d:D}(q:Dt K cl F v d)(h:d.fl=true):Dt K cl F' v d:=by
 cases q with
 | non=>exact .non
 | bl b=>exact .bl b
 | int i=>exact .int i
 | str l ok=>exact .str l ok
 | _=>cases h
theorem xe_fl {i:Nat}(h:XE X cl E e fa):XE X cl E e (fFl i fa):=by
 obtain⟨t,pt,rt⟩:=h.ex
 refine XE'.out ⟨_,pt,fun H0 F0 ρ σ H F Q R o=>?_⟩
 unfold fFl at o
 cases hw:owL ρ i with
 | none=>rw[hw] at o;exact o.elim
 | some ds =>
  rw[hw] at o
  obtain⟨F1,s1,R1⟩:=R.ice (zcM hw)
  refine rt H0 F0 _ σ H F1 _ R1 ?_
  cases e:fa (ρ.set i (.fz (.lst ds))) with
  | ok d =>
   simp only[e] at o
   split at o
   ·rename_i hf
    exact fun v H' F' g q=>o v H' F ⟨Same.refl _,g.hh,R.fh.trans g.hh,fun _ _ _ _ z=>z⟩ (q.flatAny hf)
   ·exact o.elim
  | ex n=>simp only[e] at o;exact o
  | no=>simp only[e] at o;exact o.elim
variable {scope:Scope}{x:Str}{caps:List Nat}{elt tg iter:Expr}{ifs:List Expr}{fi:Rho→Rs (List D)}{ft:Rho→Rs Bool}{fe:Rho→Rs D}
def rCatL (K:PySem.W.Frag):R2:=fun x y H Q=>∃l b xs zs,x=.ref l∧y=.ref b∧SqL K H l xs∧SqL K H b zs∧xs.length+zs.length≤sizeLine∧∀p,H p=none→Q (.ref p) (upd H p (.lst (xs++zs)))
theorem op_catL:OpR X (binaryOp .Add) (rCatL X.K):=by
 intro pins s σ H x y v u Q I rx ry h
 obtain⟨l,b,xs,zs,rfl,rfl,hH,hB,hz,q⟩:=h
 cases rx
 cases ry
 obtain⟨its,r,⟨o,n,e,hc,hdd,hd⟩,z⟩:=I.list hH
 obtain⟨its2,r2,⟨o2,n2,e2,hc2,hdd2,hd2⟩,z2⟩:=I.list hB
 obtain⟨cls,dd,data,sl⟩:=o
 obtain⟨cls2,dd2,data2,sl2⟩:=o2
 simp only at hc hd hc2 hd2
 subst hc hd hc2 hd2
 refine concat_meets ⟨_,e,rfl⟩ ⟨_,e2,rfl⟩ noFill_list_add seq_list_add PySem.F.slot_list_add PySem.F.entry_list_add (PySem.F.args_list_add_2 _ _) (list_addW l b its.toArray its2.toArray n n2 dd dd2 sl sl2 (by rw[List.size_toArray,List.size_toArray,← r.length,← r2.length];exact hz)) ⟨e,e2,?_⟩
 have ea:its.toArray++its2.toArray=(its++its2).toArray:=by simp
 rw[ea]
 exact⟨.ref _,_,I.lnew (t':=s.toks) (r.append r2) (by rw[List.length_append];omega),rfl,q _ I.fresh⟩
theorem catD_inv {a b:D}{z:List D}(e:catD a b=some z):∃l m,a=.lst l∧b=.lst m∧l.length+m.length≤1000000∧z=l++m:=by
 cases a with
 | lst l =>
  cases b with
  | lst m =>
   by_cases h:l.length+m.length≤1000000
   ·exact⟨l,m,rfl,rfl,h,(Option.some.inj ((if_pos h).symm.trans e)).symm⟩
   ·cases (if_neg h).symm.trans e
  | _=>cases e
 | _=>cases e
theorem xl_cat (ha:XE X cl E a fa)(hb:XE X cl E b fb):XL X cl E (.BinOp a .Add b pos) (fL2 catD fa fb):=by
 obtain⟨t,pt,rt⟩:=ha.ex
 obtain⟨u,pu,ru⟩:=hb.ex
 refine⟨_,pe_op op_catL pt pu,fun H0 F0 ρ σ H F Q R o=>rt H0 F0 ρ σ H F _ R (OutE.fstA o fun d v H1 F1 g q o1=>?_)⟩
 refine ru H0 F0 ρ σ H1 F1 _ (R.grow g) (OutE.fstA o1 fun d2 v2 H2 F2 g2 q2 o2=>?_)
 obtain⟨z,hz,k⟩:=o2.lf
 have fh:=(R.grow (g.trans g2)).fh
 have q':=q.mono g2.ff
 obtain⟨l,m,rfl,rfl,hl,rfl⟩:=catD_inv hz
 cases q' with
 | lst sq dq =>
  cases q2 with
  | lst sq2 dq2=>exact⟨_,_,_,_,rfl,rfl,fh.seq sq,fh.seq sq2,sz6 (by rw[dq.length,dq2.length];exact hl),fun p hp=>k _ _ _ (Gr.refl fh) (dq.append dq2) p hp⟩
end
end L2
namespace L2
open PySem PySem.Spec PyProof.Rows
def zdu (K:PySem.W.Frag):Sp:=fun vs H Q _=>∃(a:Addr) (ns:List Int),vs=[.ref a]∧SqL K H a (ns.map V.int)∧ns.length≤63∧∀H',Q (.bl true) H'
theorem law_sp {K:PySem.W.Frag}{cl:Nat→Addr}{fn:List D→Rs D}(h:∀ns:List Int,ns.length≤63→fn [.lst (ns.map .int)]=.ok (.bl true)){vs:List V}{H:Hp}{Q:VK}{E E':XK}(hs:zdu K vs H Q E):spD K cl fn 1 vs H Q E':=by
 obtain⟨a,ns,rfl,sq,hl,k⟩:=hs
 refine⟨H,[.lst (ns.map .int)],Same.refl _,.cons (.lst sq (zby fun i _=>.int i)) .nil,rfl,?_⟩
 rw[h ns hl]
 intro v H' F' g q
 cases q
 exact k H'
theorem law_ok {P:Program}{w:World}{K:PySem.W.Frag}{mg:Str→Option Value}{base:Heap}{cl:Nat→Addr}{fn:List D→Rs D}{k:Nat}{f:Addr}{fd:FuncData}{ps:List Str}(G:FnOk P w K mg base (CX1 P w) k f fd ps (spD K cl fn 1))(h:∀ns:List Int,ns.length≤63→fn [.lst (ns.map .int)]=.ok (.bl true)):FnOk P w K mg base CX0 k f fd ps (zdu K) where
 len:=fun vs H Q E hs=>G.len vs H Q E (law_sp h hs)
 run:=fun A outer s H args us vs Q E hr e0 bt vl hs=>by
  refine codeAny_mono (G.run A outer s H args us vs Q E0 hr e0 bt vl (law_sp (E:=E) h hs)) fun r s' q=>?_
  cases r with
  | error e =>
   obtain⟨a,C,a0,H',B,_,_,_,_,_,_,_,_,_,_,_,z⟩:=(show zep P w outer H s E0 e s' from q)
   exact z.elim
  | ok fl=>cases fl <;>exact q
theorem len1 {α:Type}{us:List α}(h:us.length=1):∃a,us=[a]:=List.length_eq_one_iff.mp h
theorem len2 {α:Type}{us:List α}(h:us.length=2):∃a b,us=[a,b]:=by
 cases us with
 | nil=>cases h
 | cons a t=>obtain⟨b,rfl⟩:=len1 (Nat.succ.inj h);exact⟨a,b,rfl⟩
theorem len3 {α:Type}{us:List α}(h:us.length=3):∃a b c,us=[a,b,c]:=by
 cases us with
 | nil=>cases h
 | cons a t=>obtain⟨b,c,rfl⟩:=len2 (Nat.succ.inj h);exact⟨a,b,c,rfl⟩
theorem len4 {α:Type}{us:List α}(h:us.length=4):∃a b c d,us=[a,b,c,d]:=by
 cases us with
 | nil=>cases h
 | cons a t=>obtain⟨b,c,d,rfl⟩:=len3 (Nat.succ.inj h);exact⟨a,b,c,d,rfl⟩
end L2
namespace L2
open PySem PySem.Spec PyProof.Rows
def zca (ds:List (List Nat×D))(k:List Nat):Option D:=(ds.find? fun kv=>decide (kv.1=k)).map (·.2)
def getD:D→D→Option D
 | .dct ds,.str k=>zca ds k
 | _,_=>none
def hasD (neg:Bool):D→D→Option D
 | .str k,.dct ds=>some (.bl (if neg then !(zca ds k).isSome else(zca ds k).isSome))
 | _,_=>none
theorem Dks.val {K:PySem.W.Frag}{cl:Nat→Addr}{F:Hp}{k:List Nat}:∀{vs:List (Key×V)}{ds:List (List Nat×D)},Dks K cl F vs ds→match zca ds k with|some d=>∃v,zdk vs (Sum.inr (T k):Key)=some v∧Dt K cl F v d|none=>zdk vs (Sum.inr (T k):Key)=none
 | _,_,.nil=>rfl
 | _, _,.cons (l:=l) (v:=v) (d:=d) (vs:=vs) (ds:=ds) ok q r=>by
  have ih:=Dks.val (k:=k) r
  by_cases h:l=k
  ·subst h
   have e1:zca ((l,d)::ds) l=some d:=by simp[zca]
   rw[e1]
   exact⟨v,by simp[zdk],q⟩
  ·have h':¬((Sum.inr (T l):Key)=Sum.inr (T k)):=fun z=>by injection z with z;exact h (T_inj z)
   have e1:zca ((l,d)::ds) k=zca ds k:=by simp[zca,h]
   have e2:zdk ((Sum.inr (T l),v)::vs) (Sum.inr (T k):Key)=zdk vs (Sum.inr (T k):Key):=by
    unfold zdk
    rw[List.find?_cons_of_neg (by simpa using h')]
   rw[e1,e2]
   exact ih
section
variable {X:Cx}{cl:Nat→Addr}{E:XK}{e o a b:Expr}{es:List Expr}{fa fb:Rho→Rs D}{fs:Rho→Rs (List D)}{x:Str}{p pos:Pos}
theorem getD_inv {a b d:D}(e:getD a b=some d):∃ds k,a=.dct ds∧b=.str k∧zca ds k=some d:=by
 cases a with
 | dct ds =>
  cases b with
  | str k=>exact⟨ds,k,rfl,rfl,e⟩
  | _=>cases e
 | _=>cases e
theorem hasD_inv {neg:Bool}{a b d:D}(e:hasD neg a b=some d):∃k ds,a=.str k∧b=.dct ds∧d=.bl (if neg then !(zca ds k).isSome else(zca ds k).isSome):=by
 cases a with
 | str k =>
  cases b with
  | dct ds=>exact⟨k,ds,rfl,rfl,(Option.some.inj e).symm⟩
  | _=>cases e
 | _=>cases e
theorem Dt.dctE {K:PySem.W.Frag}{F:Hp}{v:V}{ds:List (List Nat×D)}(q:Dt K cl F v (.dct ds)):∃(a:Addr) (kvs:List (Key×V)),v=.ref a∧F a=some (.dK kvs)∧Dks K cl F kvs ds:=by
 cases q with|dct h k=>exact⟨_,_,rfl,h,k⟩
theorem xe_get (hu:X.A.units+1<cLine)(ha:XE X cl E a fa)(hb:XE X cl E b fb)(hs:NoSl b:=by intro _ _;rfl):XE X cl E (.Subscript a b pos) (f2 getD fa fb):=by
 obtain⟨t,pt,rt⟩:=ha.ex
 obtain⟨u,pu,ru⟩:=hb.ex
 refine XE'.out ⟨_,pe_dget hu pt pu hs,fun H0 F0 ρ σ H F Q R o=>rt H0 F0 ρ σ H F _ R (OutE.fst o fun d v H1 F1 g1 q o1=>?_)⟩
 refine ru H0 F0 ρ σ H1 F1 _ (R.grow g1) (OutE.fst o1 fun e w H2 F2 g2 q2 o2=>?_)
 obtain⟨z,hz,k⟩:=o2.lf
 have fh:=(R.grow (g1.trans g2)).fh
 have q':=q.mono g2.ff
 obtain⟨ds,key,rfl,rfl,hz'⟩:=getD_inv hz
 obtain⟨ad,kvs,rfl,hd,hk⟩:=q'.dctE
 obtain⟨rfl,ok⟩:=q2.strE
 have hv:=hk.val (k:=key)
 rw[hz'] at hv
 obtain⟨v,e1,e2⟩:=hv
 exact⟨ad,v,rfl,e1▸DGet.k (k:=Sum.inr (T key)) (fh _ _ hd),k _ _ _ (Gr.refl fh) e2⟩
theorem in_dct {K:PySem.W.Frag}{F H:Hp}{ad:Addr}{kvs:List (Key×V)}{ds:List (List Nat×D)}{key:List Nat}(hk:Dks K cl F kvs ds):(zdk kvs (Sum.inr (T key):Key)).isSome=(zca ds key).isSome:=by
 have hv:=hk.val (k:=key)
 cases h:zca ds key with
 | none=>rw[h] at hv;dsimp only at hv;rw[hv];rfl
 | some d=>rw[h] at hv;obtain⟨v,e,_⟩:=hv;rw[e];rfl
theorem xt_notInDc (hu:X.A.units+1<cLine)(ha:XE X cl E a fa)(hb:XE X cl E b fb)(hm:behindInMarks .NotIn b=false:=by rfl):XT X cl E (.Compare a [.NotIn] [b] pos) (bT (f2 (hasD true) fa fb)):=by
 obtain⟨t,pt,rt⟩:=ha.ex
 obtain⟨u,pu,ru⟩:=hb.ex
 refine XT'.out ⟨_,pt_cmp (pc_dnotin hu pt pu) hm,fun H0 F0 ρ σ H F Q R o=>rt H0 F0 ρ σ H F _ R (OutE.fst (OutB.bT R o) fun d v H1 F1 g1 q o1=>?_)⟩
 refine ru H0 F0 ρ σ H1 F1 _ (R.grow g1) (OutE.fst o1 fun e w H2 F2 g2 q2 o2=>?_)
 obtain⟨z,hz,k⟩:=o2.lf
 have fh:=(R.grow (g1.trans g2)).fh
 obtain⟨key,ds,rfl,rfl,rfl⟩:=hasD_inv hz
 obtain⟨rfl,ok⟩:=q.strE
 obtain⟨ad,kvs,rfl,hd,hk⟩:=q2.dctE
 refine⟨ad,_,rfl,DGet.k (k:=Sum.inr (T key)) (fh _ _ hd),?_⟩
 have:=k _ _ _ (Gr.refl fh) (.bl _)
 rw[in_dct (H:=H2) (ad:=ad) hk]
 exact this
def zipL (ks:List (List Nat))(ds:List D):List (List Nat×D):=(List.range (min ks.length ds.length)).foldl (fun m j=>putD m (ks.getD j []) (ds.getD j .non)) []
def seqD:D→Option (List D)
 | .lst ds=>some ds
 | .tup ds=>some ds
 | _=>none
def zc4 (a b:D):Option D:=match seqD a,seqD b with
 | some ks,some ds=>if ks.all isS=true∧ks.length≤1000 then some (.dct (zipL (ks.map unS) ds)) else none
 | _,_=>none
theorem Dts.getDt {K:PySem.W.Frag}{F:Hp}:∀{vs:List V}{ds:List D} (_:Dts K cl F vs ds) (j:Nat),j<ds.length→Dt K cl F (vs.getD j .non) (ds.getD j .non):=by
 intro vs ds
 induction ds generalizing vs with
 | nil=>intro _ j h;cases h
 | cons d ds ih =>
  intro q j h
  cases q with
  | cons r t =>
   cases j with
   | zero=>exact r
   | succ j=>exact ih t j (Nat.lt_of_succ_lt_succ h)
theorem zip_dks {K:PySem.W.Frag}{F:Hp}{ks:List (List Nat)}{vs:List V}{ds:List D}(hk:∀x∈ks,TxtOk (T x))(q:Dts K cl F vs ds):Dks K cl F (zipT ks vs) (zipL ks ds):=by
 have key:∀(js:List Nat) (m:List (Key×V)) (n:List (List Nat×D)),(∀j∈js,j<ks.length∧j<ds.length)→Dks K cl F m n →
   Dks K cl F (js.foldl (fun m j=>putK m (Sum.inr (T (ks.getD j []))) (vs.getD j .non)) m) (js.foldl (fun m j=>putD m (ks.getD j []) (ds.getD j .non)) n):=by
  intro js
  induction js with
  | nil=>exact fun m n _ h=>h
  | cons j js ih =>
   intro m n h hm
   rw[List.foldl_cons,List.foldl_cons]
   obtain⟨h1,h2⟩:=h j (.head _)
   refine ih _ _ (fun i hi=>h i (.tail _ hi)) (hm.put (hk _ ?_) (q.getDt j h2))
   rw[List.getD_eq_getElem?_getD,List.getElem?_eq_getElem h1]
   exact List.getElem_mem h1
 unfold zipT zipL
 rw[q.length]
 exact key _ _ _ (fun j hj=>by have:=List.mem_range.mp hj;omega) .nil
theorem Dt.seq {K:PySem.W.Frag}{F:Hp}{v:V}{d:D}{ds:List D}(q:Dt K cl F v d)(e:seqD d=some ds):∃(a:Addr) (vs:List V),v=.ref a∧(SqL K F a vs∨SqT K F a vs)∧Dts K cl F vs ds:=by
 cases q with
 | lst sq dq=>obtain rfl:=Option.some.inj e;exact⟨_,_,rfl,.inl sq,dq⟩
 | tup sq dq=>obtain rfl:=Option.some.inj e;exact⟨_,_,rfl,.inr sq,dq⟩
 | _=>cases e
theorem zb8 {p1 p2 pos1 pos2:Pos}(hc:X.calm=true)(hd:Gl X "dict")(md:X.mg "dict" = none)(hz:Gl X "zip")(mz:X.mg "zip" = none)(ha:XE X cl E a fa)(hb:XE X cl E b fb)
  (hs:starEach [a,b] X.env=[(false,eval a X.env),(false,eval b X.env)]:=by rfl) (hs2:starEach [b] X.env=[(false,eval b X.env)]:=by rfl)
  (hs3:starEach [.Call (.Name "zip" p2) [a,b] [] pos2] X.env=[(false,eval (.Call (.Name "zip" p2) [a,b] [] pos2) X.env)]:=by rfl) :
  XE X cl E (.Call (.Name "dict" p1) [.Call (.Name "zip" p2) [a,b] [] pos2] [] pos1) (f2 zc4 fa fb):=by
 obtain⟨t,pt,rt⟩:=ha.ex
 obtain⟨u,pu,ru⟩:=hb.ex
 refine XE'.out ⟨_,zeb hc pt pu hd hz md mz hs hs2 hs3,fun H0 F0 ρ σ H F Q R o=>?_⟩
 unfold tZipS zav
 refine rt H0 F0 ρ σ H F _ R (OutE.fst o fun d v H1 F1 g1 q o1=>?_)
 refine ru H0 F0 ρ σ H1 F1 _ (R.grow g1) (OutE.fst o1 fun e w H2 F2 g2 q2 o2=>?_)
 obtain⟨z,hz,k⟩:=o2.lf
 have fh:=(R.grow (g1.trans g2)).fh
 have q':=q.mono g2.ff
 unfold zc4 at hz
 split at hz
 ·rename_i ks ds ek ed
  split at hz
  ·rename_i h
   obtain rfl:=Option.some.inj hz
   obtain⟨A1,vs1,rfl,s1,d1⟩:=q'.seq ek
   obtain⟨A2,vs2,rfl,s2,d2⟩:=q2.seq ed
   obtain⟨e1,e2,e3⟩:=d1.texts h.1
   subst e1
   refine⟨ks.map unS,A1,A2,vs2,rfl,s1.imp fh.seq fh.seqT,s2.imp fh.seq fh.seqT,by rw[List.length_map];exact h.2,fun p hp=>k _ _ _ (Gr.new fh hp) ?_⟩
   exact .dct zM ((zip_dks e2 d2).mono (Same.upd (fh.free hp)))
  ·cases hz
 ·cases hz
end
def strD:List D→Option D
 | [.int i]=>if 0≤i∧i≤9 then some (.str [48+i.toNat]) else none
 | _=>none
def maxD:List D→Option D
 | [.int i,.int j]=>some (.int (if j > i then j else i))
 | _=>none
section
variable {K:PySem.W.Frag}{cl:Nat→Addr}
theorem n_str:Fn1 K cl (fun xs H Q=>∃i,xs=[.int i]∧i.natAbs.log2<1920∧Q (.str (toString i)) H) strD:=fun F H vs ds d Q s q e k=>by
 match ds,q,e with
 | [.int i],q,e =>
  obtain⟨v,rfl,q1⟩:=q.one
  cases q1
  dsimp only [strD] at e
  split at e
  ·rename_i h
   obtain rfl:=Option.some.inj e
   obtain⟨n,rfl⟩:=Int.eq_ofNat_of_zero_le h.1
   have key:∀n<10,((toString ((n:Nat):Int):String):Str)=T [48+n]∧((n:Nat):Int).natAbs.log2<1920:=by decide +kernel
   have hn:n<10:=by omega
   refine⟨_,rfl,(key n hn).2,?_⟩
   have:=k (.str (T [48+n])) _ _ (Gr.refl s) (.str _ (jL (fun c hc=>by rw[List.mem_singleton.mp hc];omega) (by show 1≤_;decide)))
   rw[(key n hn).1]
   exact this
  ·cases e
def LI2 (f:Int→Int→Option D):List D→Option D
 | [.int i,.int j]=>f i j
 | _=>none
theorem LI2_inv {f:Int→Int→Option D}{ds:List D}{d:D}(e:LI2 f ds=some d):∃i j,ds=[.int i,.int j]∧f i j=some d:=by
 cases ds with
 | nil=>cases e
 | cons a t =>
  cases a with
  | int i =>
   cases t with
   | nil=>cases e
   | cons b t =>
    cases b with
    | int j =>
     cases t with
     | nil=>exact⟨i,j,rfl,e⟩
     | cons _ _=>cases e
    | _=>cases e
  | _=>cases e
theorem n_max:Fn1 K cl (fun xs H Q=>∃i j,xs=[.int i,.int j]∧Q (.int (if j > i then j else i)) H) maxD:=fun F H vs ds d Q s q e k=>by
 obtain⟨i,j,rfl,e1⟩:=LI2_inv (f:=fun i j=>some (.int (if j > i then j else i))) e
 obtain⟨v,w,rfl,q1,q2⟩:=q.two
 obtain rfl:=q1.intE
 obtain rfl:=q2.intE
 obtain rfl:=Option.some.inj e1
 exact⟨_,_,rfl,k _ _ _ (Gr.refl s) (.int _)⟩
end
end L2
namespace L2
open PySem PySem.Spec PyProof.Rows
section
variable {X:Cx}{cl:Nat→Addr}{E:XK}{a b e:Expr}{fa fb:Rho→Rs D}{pos:Pos}{st:Stmt}{g:Rho→Out}
end
end L2
namespace L2
open PySem PySem.Spec PyProof.Rows
end L2
namespace L2
open PySem PySem.Spec PyProof.Rows
end L2
namespace L2
open PySem PySem.Spec PyProof.Rows
end L2
namespace L2
open PySem PySem.Spec PyProof.Rows
structure XEw (X:Cx)(cl:Nat→Addr)(E:XK)(e:Expr)(f:Rho→Rs D):Prop where
 out:XE X cl E e f
structure XAw (X:Cx)(cl:Nat→Addr)(E:XK)(es:List Expr)(f:Rho→Rs (List D)):Prop where
 out:XA X cl E es f
section
variable {X:Cx}{cl:Nat→Addr}{E:XK}{e:Expr}{es:List Expr}{f:Rho→Rs D}{fs:Rho→Rs (List D)}{pos:Pos}
theorem zbX:XAw X cl E [] zF:=⟨zx⟩
theorem wI (h1:XEw X cl E e f)(h2:XAw X cl E es fs)(hs:starEach (e::es) X.env=(false,eval e X.env)::starEach es X.env):XAw X cl E (e::es) (zf f fs):=⟨zj h1.out h2.out hs⟩
theorem yw_lst (h:XAw X cl E es fs):XEw X cl E (.List es pos) (fO mkL fs):=⟨xe_lst h.out⟩
theorem yw_tup {x1}(h:XAw X cl E es fs):XEw X cl E (.Tuple es x1 pos) (fO mkT fs):=⟨zdq h.out⟩
theorem yw_str {x:Str}{j}{l:List Nat}(h:x=T l)(ok:TxtOk (T l)):XEw X cl E (.Constant (.str x) j pos) (fC (.str l)):=⟨xU h ok⟩
theorem zdL {i j}:XEw X cl E (.Constant (.int i) j pos) (fC (.int i)):=⟨zN⟩
end
end L2
namespace L2
open PySem PySem.Spec PyProof.Rows
end L2
namespace L2
open PySem PySem.Spec PyProof.Rows
end L2
namespace L2
open PySem PySem.Spec PyProof.Rows
end L2
namespace L2
open PySem PySem.Spec PyProof.Rows
end L2
namespace L2
open PySem PySem.Spec PyProof.Rows
def PX (X:Cx)(e:Expr)(t:St→Hp→VK→XK→Prop):Prop:=∀(pins:List (Addr×Obj)) (s:Shared) (σ:St) (H:Hp) (Q:VK) (E:XK) (F':Value→Shared→Prop),Inv X pins σ H s →
 (∀H s e s',Inv X pins σ H s→zep X.prog X.w X.stack H s E e s'→F' e s')→t σ H Q E→wpAny (model X.prog X.w) X.A (eval e X.env) (EP X pins σ Q) F' s
theorem PX.mono {X:Cx}{e:Expr}{t u:St→Hp→VK→XK→Prop}(h:PX X e t)(k:∀σ H Q E,u σ H Q E→t σ H Q E):PX X e u:=fun pins s σ H Q E F' I hx q=>h pins s σ H Q E F' I hx (k σ H Q E q)
section
variable {X:Cx}{cl:Nat→Addr}{x:Str}{p pos:Pos}{e c a b:Expr}{es:List Expr}
theorem own_free {ρ:Rho}(h:ρ.all (fun s=>!s.own)=true){i:Nat}{s:Sl}(e:ρ[i]? = some s):s.own=false:=by
 have:=List.all_eq_true.mp h s (List.mem_of_getElem? e)
 simpa using this
theorem Rl.base {K:PySem.W.Frag}{H0 F0 H F:Hp}{ρ:Rho}{σ:St}(R:Rl K cl H0 F0 ρ σ H F)(h:ρ.all (fun s=>!s.own)=true):Rl K cl H F ρ σ H F where
 gr:=Gr.refl R.fh
 len:=R.len
 fz:=R.fz
 ow:=fun i ds e=>by have:=own_free h e;cases this
 od:=fun i ds e=>by have:=own_free h e;cases this
 ap:=R.ap
theorem Gr.exc {F H H':Hp}{a:Addr}{o:HO}(h:Same F H)(s:Same H H')(ha:H' a=none):Gr F H (upd F a o) (upd H' a o):=by
 have hH:H a=none:=by
  cases z:H a with
  | none=>rfl
  | some q=>rw[s a q z] at ha;cases ha
 refine⟨Same.upd (h.free hH),s.trans (Same.upd ha),upd_mono (h.trans s),fun b o hb m q=>?_⟩
 have hne:b≠a:=fun z=>by rw[z,hH] at hb;cases hb
 rw[zJ hne];exact q
end
end L2
namespace L2
open PySem PySem.Spec PyProof.Rows
section
variable {X:Cx}{cl:Nat→Addr}
def PXs (X:Cx)(sts:List Stmt)(t:St→Hp→VK→XK→Prop):Prop:=∀(pins:List (Addr×Obj)) (s:Shared) (σ:St) (H:Hp) (D:Ends) (E:XK) (F':Value→Shared→Prop),Inv X pins σ H s →
 (∀H s e s',Inv X pins σ H s→zep X.prog X.w X.stack H s E e s'→F' e s')→t σ H D.rt E→wpAny (model X.prog X.w) X.A (execs sts X.env) (SP X pins {D with nx:=fun _ _=>False,bk:=fun _ _=>False,ct:=fun _ _=>False}) F' s
theorem PXs.mono {sts:List Stmt}{t u:St→Hp→VK→XK→Prop}(h:PXs X sts t)(k:∀σ H Q E,u σ H Q E→t σ H Q E):PXs X sts u:=fun pins s σ H D E F' I hx q=>h pins s σ H D E F' I hx (k σ H D.rt E q)
end
end L2
namespace L2
open PySem PySem.Spec PyProof.Rows
open AutoSeq1 (wpAny_loadPart')
end L2
namespace L2
open PySem PySem.Spec PyProof.Rows
def intD:List D→Option D
 | [.bl b]=>some (.int (if b then 1 else 0))
 | _=>none
theorem n_int {K:PySem.W.Frag}{cl:Nat→Addr}:Fn1 K cl (fun xs H Q=>∃b,xs=[.bl b]∧Q (.int (if b then 1 else 0)) H) intD:=fun F H vs ds d Q s q e k=>by
 match ds,q,e with
 | [.bl b],q,e =>
  obtain⟨v,rfl,q1⟩:=q.one
  cases q1
  obtain rfl:=Option.some.inj e
  exact⟨b,rfl,k _ _ _ (Gr.refl s) (.int _)⟩
end L2
namespace L2
open PySem PySem.Spec PyProof.Rows
open AutoSeq1 (wpAny_loadPart')
end L2
namespace L2
open PySem PySem.Spec PyProof.Rows
end L2
namespace L2
open PySem PySem.Spec PyProof.Rows
end L2
namespace L2
open PySem PySem.Spec PyProof.Rows
end L2
namespace L2
open PySem
def tI (led:Bool)(ks:List Nat):SetTable:=if ks.length<5 then {mask:=7,place:=ks.toArray,dummies:=#[],finger:=0,led,moves:=0,plain:=true} else {mask:=31,place:=ks.toArray,dummies:=#[],finger:=0,led,moves:=1,plain:=true}
def subs6:List (List Nat):=([1,2,3,4,5,6]:List Nat).foldr (fun x acc=>acc++acc.map (x :: ·)) [[]]
theorem subsI:∀led,∀ks∈subs6,(tI led ks).fits ks.length=true∧(tI led ks).led=led∧(tI led ks).plain=true∧ks.length≤6∧ks.Nodup∧∀k∈ks,k∈([1,2,3,4,5,6]:List Nat):=by decide +kernel
structure StI (w:World)(es:Array (Int×Value))(t:SetTable)(ks:List Nat):Prop where
 hs:es.toList.map (·.1)=ks.map fun(k:Nat)=>(k:Int)
 vs:∀e∈es.toList,∃(k:Nat) (tk:Tok),k∈ks∧e=((k:Int),Value.int (k:Int) tk)
 tb:t=tI (!w.params.followText "set-order") ks
 sb:ks∈subs6
section
variable {prog:Program}{w:World}{A:Around}{E:Value→Shared→Prop}{s:Shared}{es:Array (Int×Value)}{t:SetTable}{ks:List Nat}
theorem StI.size (S:StI w es t ks):es.size=ks.length:=by
 have:=congrArg List.length S.hs
 simpa using this
theorem StI.fits (S:StI w es t ks):t.fits es.size=true:=by rw[S.size,S.tb];exact(subsI _ ks S.sb).1
theorem StI.find (S:StI w es t ks)(x:Nat):(∃e∈es.toList,Value.isInt (x:Int) e.2=true)↔x∈ks:=by
 constructor
 ·rintro ⟨e,he,h⟩
  obtain⟨k,tk,hk,rfl⟩:=S.vs e he
  have:(x:Int)=(k:Int):=by
   obtain⟨t,e⟩:=Value.isInt_shape h
   injection e with e _
   exact e.symm
  have:x=k:=by omega
  subst this;exact hk
 ·intro hx
  have:(x:Int)∈es.toList.map (·.1):=by rw[S.hs];exact List.mem_map_of_mem hx
  obtain⟨e,he,e1⟩:=List.mem_map.mp this
  obtain⟨k,tk,hk,rfl⟩:=S.vs e he
  refine⟨_,he,?_⟩
  dsimp only at e1
  rw[e1]
  simp[Value.isInt]
end
end L2
namespace L2
open PySem
end L2
set_option maxHeartbeats 3200000
namespace L2
open PySem
section
variable {prog:Program}{w:World}{A:Around}{E:Value→Shared→Prop}{s:Shared}
theorem StI.new:StI w #[] (.fresh 0 0 (!w.params.followText "set-order")) []:=⟨rfl,fun e he=>by simp at he,rfl,by decide⟩
end
end L2
namespace L2
open PySem PySem.Spec PyProof.Rows
section
variable {prog:Program}{w:World}{A:Around}{E:Value→Shared→Prop}{s:Shared}
end
end L2
set_option maxHeartbeats 1000000
namespace L2
open PySem PySem.Spec PyProof.Rows
end L2
namespace L2
open PySem PySem.W PyProof.Rows
structure Ord (n:Nat)(b:Nat→Nat→Bool):Prop where
 tr:∀i j k,i<n→j<n→k<n→b i j=true→b j k=true→b i k=true
 tot:∀i j,i<n→j<n→i≠j→b i j=false→b j i=true
 ir:∀i,i<n→b i i=false
def PP (n:Nat)(p:Array Nat):Prop:=p.toList.Perm (List.range n)
section
variable {n:Nat}{b:Nat→Nat→Bool}{cmp:Nat→Nat→(Bool→Shared→Prop)→Shared→Prop}{s:Shared}{p:Array Nat}
theorem gd (p:Array Nat)(i:Nat):p.getD i 0=(p[i]?).getD 0:=by simp[Array.getD];split <;>simp_all
theorem PP.size (h:PP n p):p.size=n:=by have:=h.length_eq;simpa using this
theorem PP.lt (h:PP n p){i:Nat}(hi:i<n):p.getD i 0<n:=by
 have hs:=h.size
 have e:p.getD i 0=p[i]'(by omega):=by rw[gd,getElem?_pos p i (by omega)];rfl
 rw[e]
 exact List.mem_range.mp (h.mem_iff.mp (Array.getElem_mem_toList (by omega)))
theorem PP.inj (h:PP n p){i j:Nat}(hi:i<n)(hj:j<n)(hij:i≠j):p.getD i 0≠p.getD j 0:=by
 have hs:=h.size
 have nd:p.toList.Nodup:=h.nodup_iff.mpr List.nodup_range
 have e:∀k,k<n→p.getD k 0=p.toList.getD k 0:=fun k hk=>by rw[gd];simp
 rw[e i hi,e j hj]
 intro z
 have hl:p.toList.length=n:=by simpa using hs
 rw[List.getD_eq_getElem?_getD,List.getD_eq_getElem?_getD,List.getElem?_eq_getElem (by omega),List.getElem?_eq_getElem (by omega)] at z
 have pw:=List.pairwise_iff_getElem.mp nd
 rcases Nat.lt_or_gt_of_ne hij with c|c
 ·exact pw i j (by omega) (by omega) c z
 ·exact pw j i (by omega) (by omega) c z.symm
variable (O:Ord n b)(hc:∀i j (C:Bool→Shared→Prop),i<n→j<n→C (b i j) s→cmp i j C s)
include O hc
end
end L2
namespace L2
open PySem PySem.W PyProof.Rows
end L2
namespace L2
open PySem PySem.W PyProof.Rows
end L2
namespace L2
open PySem PySem.W PyProof.Rows
def kOf:D→Key
 | .int i=>.inl i
 | .str l=>.inr (T l)
 | _=>.inl 0
def isAt:D→Bool
 | .int _=>true
 | .str _=>true
 | _=>false
def tOf:D→List D
 | .tup ds=>ds
 | _=>[]
def kkOf (d:D):List Key:=(tOf d).map kOf
def isTA:D→Bool
 | .tup ds=>ds.all isAt
 | _=>false
section
variable {K:PySem.W.Frag}{cl:Nat→Addr}{F:Hp}
theorem Dts.atoms:∀{vs:List V}{ds:List D},Dts K cl F vs ds→ds.all isAt=true→vs=(ds.map kOf).map kV
 | _,_,.nil,_=>rfl
 | _,_,.cons q r,h=>by
  rw[List.all_cons,Bool.and_eq_true] at h
  have e:=Dts.atoms r h.2
  cases q with
  | int i=>rw[e];rfl
  | str l ok=>rw[e];rfl
  | _=>simp[isAt] at h
theorem Dts.tups:∀{vs:List V}{ds:List D},Dts K cl F vs ds→(∀d∈ds,isTA d=true)→∃ts:List Addr,vs=ts.map V.ref∧ts.length=ds.length∧∀i,i<ds.length→SqT K F (ts.getD i 0) (((ds.map kkOf).getD i []).map kV)
 | _,_,.nil,_=>⟨[],rfl,rfl,fun i hi=>by simp at hi⟩
 | _,_,.cons q r,h=>by
  obtain⟨ts,e1,e2,e3⟩:=Dts.tups r fun d hd=>h d (List.mem_cons_of_mem _ hd)
  have h0:=h _ List.mem_cons_self
  cases q with
  | tup sq dq =>
   rename_i a xs ds'
   have ex:=dq.atoms h0
   refine⟨a::ts,by rw[e1];rfl,by simp[e2],fun i hi=>?_⟩
   cases i with
   | zero=>show SqT K F a ((ds'.map kOf).map kV);rw[← ex];exact sq
   | succ i=>exact e3 i (by simpa using hi)
  | _=>simp[isTA] at h0
end
end L2
namespace L2
open PySem PySem.Spec PyProof.Rows
def gz:D→Option (List D)
 | .tup ds=>some ds
 | .lst ds=>some ds
 | .str l=>if l.all (· < 128) then some (l.map fun c=>.str [c]) else none
 | _=>none
end L2
namespace L2
open PySem PySem.Spec PyProof.Rows
def spl (c:Nat):List Nat→List (List Nat)
 | []=>[[]]
 | x::l=>if x=c then[]::spl c l else match spl c l with
  | p::ps=>(x::p)::ps
  | []=>[[x]]
def jn (c:Nat):List (List Nat)→List Nat
 | []=>[]
 | [p]=>p
 | p::q::r=>p++c::jn c (q::r)
end L2
namespace L2
open PySem PySem.Spec PyProof.Rows
end L2
namespace L2
open PySem PySem.Spec PyProof.Rows
end L2
namespace L2
open PySem PySem.Spec PyProof.Rows
end L2
namespace L2
open PySem PySem.Spec PyProof.Rows
inductive Dz (K:PySem.W.Frag)(x:Str)(st:Stmt):Prop
 | mk {f:Addr}{oc kV dc pm cd ct:Value}{od an:Option Addr}{sl:Array (Option Value)} (a:PySem.W.nsIn K mainGlobals x=some (some (.ref f))) (l:K.lookup f=some ⟨oc,od,.func (PySem.W.fnOf x x (qN st) (wH st) (zu st) .none kV dc pm an cd ct),sl⟩) (c:PySem.W.codeIn K cd x=true) (k:PySem.W.keepIn K (.ref f)=true):Dz K x st
theorem Dz.dn {K:PySem.W.Frag}{h:Heap}{mg:Str→Option Value}{x:Str}{st:Stmt}(z:Dz K x st)(X:K.In h)(G:h.Ns mainGlobals mg)(ps:List Str)(hb:∀(kV doc pm:Value) (an:Option Addr) (cdv ct:Value) (us:List Value),us.length=ps.length→bindArgs (PySem.W.fnOf x x (qN st) (wH st) (zu st) .none kV doc pm an cdv ct) ⟨us,[]⟩=pure (ps.zip us)):Nonempty (Dn K mg x st ps):=by
 obtain⟨a,l,c,k⟩:=z
 exact⟨⟨_,_,zc9 l c k,PySem.W.mg_of X G a,(zc9 l c k).binds hb⟩⟩
inductive Oz (K:PySem.W.Frag)(x:Str):Prop
 | mk {a:Addr} (y:PySem.W.nsIn K mainGlobals x=some (some (.ref a))) (q:PySem.W.excIn K a [.type "ValueError", .type "Exception", .type "BaseException", .type "object"] "ValueError.__new__" = true):Oz K x
theorem Oz.ow {K:PySem.W.Frag}{h:Heap}{mg:Str→Option Value}{x:Str}(z:Oz K x)(X:K.In h)(G:h.Ns mainGlobals mg):Nonempty (Own K mg x):=by
 obtain⟨y,q⟩:=z
 exact⟨⟨_,PySem.W.mg_of X G y,q⟩⟩
section
variable {α:Type}{p:List α→Prop}
theorem bd1 (h:∀a,p [a])(us:List α)(e:us.length=1):p us:=by obtain⟨_,rfl⟩:=len1 e;exact h _
theorem bd2 (h:∀a b,p [a,b])(us:List α)(e:us.length=2):p us:=by obtain⟨_,_,rfl⟩:=len2 e;exact h _ _
theorem bd3 (h:∀a b c,p [a,b,c])(us:List α)(e:us.length=3):p us:=by obtain⟨_,_,_,rfl⟩:=len3 e;exact h _ _ _
theorem bd4 (h:∀a b c d,p [a,b,c,d])(us:List α)(e:us.length=4):p us:=by obtain⟨_,_,_,_,rfl⟩:=len4 e;exact h _ _ _ _
end
end L2
set_option maxHeartbeats 4000000
namespace Pg
open PySem L2 PyProof.Rows
def vo:Rho→Out :=
  (yD (sIf (bT (f2 (eqD false) (fNm 0) (fO mkL zF)))
  (xQ (f2 mulI (fC (.int 7)) (fNm 1)))
  sNx)
  (xQ (f2 uy (f2 ixD (fNm 0) (f2 modI (fNm 1) (fO qp (zf (fNm 0) zF)))) (f2 mulI (fC (.int 6553)) (f2 zcJ (fNm 1) (fO qp (zf (fNm 0) zF)))))))
def vN:List D→Rs D:=yJ 2 vo
def wV:Rho→Out :=
  (yD (xX 3 (f2 modI (f2 uy (f2 mulI (f2 modI (fA (ari 2 vN) (zf (fNm 0) (zf (fNm 1) zF))) (fC (.int 2147483563))) (fC (.int 69069))) (f2 mulI (fC (.int 104723)) (f2 uy (fNm 1) (fC (.int 1))))) (fC (.int 2147483563))))
  (yD (xX 3 (f2 modI (f2 uy (f2 mulI (fNm 3) (fNm 3)) (f2 zcJ (fNm 3) (fC (.int 3)))) (fC (.int 2147483399))))
  (xQ (f2 modI (f2 zcJ (f2 modI (f2 uy (f2 mulI (fNm 3) (fNm 3)) (f2 zcJ (fNm 3) (fC (.int 7)))) (fC (.int 2147483647))) (fC (.int 11))) (fNm 2)))))
def zH:List D→Rs D:=yJ 4 wV
def vD:Rho→Out :=
  (yD (vh 4 (fCp (fR zdT (zf (fNm 2) zF)) wD (f2 ixD (fC (.str [97,98,99,100])) (fNm 0)) []))
  (yD (jT (kO 5 (fR zdT (zf (fNm 3) zF))
  (yD (zcX 4 6 (fFl 4 (fA (ari 3 zH) (zf (fNm 0) (zf (f2 uy (fNm 1) (fNm 5)) (zf (fO qp (zf (fNm 4) zF)) zF))))))
  (zbG 4 (vh 4 (fL sortD (zf (fLs (fL2 catD (fNm 4) (xV (fR zdT (zf (fNm 2) zF)) wD (f2 jD (fNm 1) (f2 ixD (fC (.str [97,98,99,100])) (fNm 0))) [6]))) zF)))))))
  (zbG 4 (xQ (fO tupD (zf (fNm 4) zF))))))
def vW:List D→Rs D:=yJ 7 vD
def vG:Rho→Out :=
  (yD (xX 4 (fA (ari 3 zH) (zf (fNm 0) (zf (fNm 1) (zf (f2 uy (fNm 3) (fC (.int 1))) zF)))))
  (xQ (fM isS vJ (fC (.str [])) (xV (fR zdT (zf (fNm 4) zF)) wD (f2 ixD (fC (.str [97,98,99,100])) (fA (ari 3 zH) (zf (fNm 1) (zf (f2 uy (f2 uy (fNm 3) (fC (.int 1))) (fNm 0)) (zf (fNm 2) zF))))) [0,2,1]))))
def xR:List D→Rs D:=yJ 5 vG
def uT:Rho→Out :=
  (xQ (fO allD (zf (fLs (fCz (fNm 0) (fSl (fNm 0) (yR (fC (.int 1))) xO) wD (f2 ltS (fNm 0) (fNm 1)) [])) zF)))
def vZ:List D→Rs D:=yJ 1 uT
def zaf:Rho→Out :=
  (xQ (zbE (f1 (zcy isInt) (fNm 0)) (zd5 (f1 (zcy isBool) (fNm 0)))))
def jw:List D→Rs D:=yJ 1 zaf
def vY:Rho→Out :=
  (xQ (zbE (fA (ari 1 jw) (zf (fNm 0) zF)) (fCh leI leI (fNm 1) (fNm 0) (fNm 2))))
def vf:List D→Rs D:=yJ 3 vY
def yp:Rho→Out :=
  (xQ (fA (ari 3 vf) (zf (fNm 0) (zf (fC (.int 2)) (zf (fO qp (zf (fC (.str [97,98,99,100])) zF)) zF)))))
def yg:List D→Rs D:=yJ 1 yp
def vU:Rho→Out :=
  (yD (xX 2 (fSl (fC (.str [97,98,99,100])) xO (yR (fNm 0))))
  (xQ (zbE (f1 (zcy isStr) (fNm 1)) (fO allD (zf (xV (fI sgD (fNm 1)) wD (f2 (inC false) (fNm 0) (fNm 1)) [2]) zF)))))
def yM:List D→Rs D:=yJ 3 vU
def vL:Rho→Out :=
  (yD (sIf (bOr (zbA (bT (fA (ari 1 yg) (zf (fNm 0) zF)))) (zbA (bT (f1 (zcy isTup) (fNm 1)))))
  (xQ (fC (.bl false)))
  sNx)
  (yD (sIf (zbA (bT (fCh leI leI (fC (.int 1)) (fO qp (zf (fNm 1) zF)) (fC (.int 32)))))
  (xQ (fC (.bl false)))
  sNx)
  (yD (sIf (zbA (bT (fO allD (zf (xV (fI tpD (fNm 1)) wD (zbE (fA (ari 2 yM) (zf (fNm 1) (zf (fNm 0) zF))) (f2 (eqD true) (fNm 0) (fC (.str [])))) [0]) zF))))
  (xQ (fC (.bl false)))
  sNx)
  (xQ (fA (ari 1 vZ) (zf (fNm 1) zF))))))
def wg:List D→Rs D:=yJ 2 vL
def xj:Rho→Out :=
  (yD (jT (ql 1 2 (fNm 0) (fSl (fNm 0) (yR (fC (.int 1))) xO)
  (sIf (bT (fM isS xr (fNm 2) (fNm 1)))
  (xQ (fO mkT (zf (fNm 1) (zf (fNm 2) zF))))
  sNx)))
  (xQ (fC .non)))
def yL:List D→Rs D:=yJ 3 xj
def qx:Rho→Out :=
  (yD (vh 2 (fL szL zF))
  (yD (jT (kO 3 (fI lsD (fNm 1))
  (kO 4 (fI sgD (fSl (fC (.str [97,98,99,100])) xO (yR (fNm 0))))
  (zbB 2 (f2 jD (fNm 3) (fNm 4))))))
  (zbG 2 (xQ (fNm 2)))))
def yS:List D→Rs D:=yJ 5 qx
def qT:Rho→Out :=
  (xQ (zd5 (fO anyD (zf (xV (fI tpD (fNm 0)) wD (fOr (fM isS xr (fNm 0) (fNm 1)) (fM isS xr (fNm 1) (fNm 0))) [1]) zF))))
def zZ:List D→Rs D:=yJ 2 qT
def qQ:Rho→Out :=
  (xQ (fO anyD (zf (xV (fI tpD (fNm 0)) wD (zbE (fM isS xr (fNm 0) (fNm 1)) (f2 (eqD true) (fNm 0) (fNm 1))) [1]) zF)))
def zY:List D→Rs D:=yJ 2 qQ
def xW:Rho→Out :=
  (yD (xX 2 (fO mkL (zf (fC (.str [])) zF)))
  (yD (jT (sWh 2000 (bT (f2 (eqD true) (fNm 2) (fO mkL zF)))
  (yD (xX 3 (fA (ari 2 yS) (zf (fNm 0) (zf (fNm 2) zF))))
  (yD (kO 4 (fI lsD (fNm 3))
  (sIf (bT (fA (ari 2 zZ) (zf (fNm 1) (zf (fNm 4) zF))))
  (xQ (fNm 4))
  sNx))
  (vK 2 (fCp (fI lsD (fNm 3)) (bT (fA (ari 2 zY) (zf (fNm 1) (zf (fNm 0) zF)))) (fNm 0) [1]))))))
  (xQ (fC .non))))
def yP:List D→Rs D:=yJ 5 xW
def wz:Rho→Out :=
  (yD (xX 2 (fA (ari 1 yL) (zf (fNm 1) zF)))
  (yD (sIf (bT (f1 (isN true) (fNm 2)))
  (xQ (fNm 2))
  sNx)
  (xQ (fA (ari 2 yP) (zf (fNm 0) (zf (fNm 1) zF))))))
def wN:List D→Rs D:=yJ 3 wz
def za5:Rho→Out :=
  (xQ (zbE (fA (ari 2 wg) (zf (fNm 0) (zf (fNm 1) zF))) (f1 (isN false) (fA (ari 2 wN) (zf (fNm 0) (zf (fNm 1) zF))))))
def qU:List D→Rs D:=yJ 2 za5
def ux:Rho→Out :=
  (sIf (zbA (bT (fA (ari 2 qU) (zf (fNm 0) (zf (fNm 1) zF)))))
  (sRs 1 (zf (fC (.str [116,104,105,115,32,105,115,32,110,111,32,98,111,111,107,32,111,102,32,115,111,32,109,97,110,121,32,108,101,116,116,101,114,115])) zF))
  sNx)
def zT:List D→Rs D:=yJ 2 ux
def wJ:Rho→Out :=
  (sIf (zbA (bT (fA (ari 2 yM) (zf (fNm 0) (zf (fNm 1) zF)))))
  (sRs 3 (zf (fC (.str [116,104,105,115,32,105,115,32,110,111,32,116,101,120,116,32,111,102,32,116,104,101,115,101,32,108,101,116,116,101,114,115])) zF))
  sNx)
def zV:List D→Rs D:=yJ 2 wJ
def jO:Rho→Out :=
  (yD (vh 2 (fL szL zF))
  (yD (xX 3 (fC (.str [])))
  (yD (jT (kO 4 (fI sgD (fNm 1))
  (yD (xX 3 (f2 jD (fNm 3) (fNm 4)))
  (sIf (bT (f2 (inD false) (fNm 3) (fNm 0)))
  (yD (zbB 2 (fNm 3))
  (xX 3 (fC (.str []))))
  sNx))))
  (zbG 2 (xQ (fO mkT (zf (fNm 2) (zf (fNm 3) zF))))))))
def qJ:List D→Rs D:=yJ 5 jO
def g_cut:Rho→Out :=
  (yD (uc (fA (ari 2 zT) (zf (fNm 0) (zf (fNm 1) zF))))
  (yD (uc (fA (ari 2 zV) (zf (fNm 0) (zf (fNm 2) zF))))
  (xQ (fA (ari 2 qJ) (zf (fNm 1) (zf (fNm 2) zF))))))
def zdO:List D→Rs D:=yJ 3 g_cut
def zaa:Rho→Out :=
  (yD (xX 1 (fC (.int 0)))
  (yD (xX 2 (fC (.int 1)))
  (yD (jT (sWh 64 (bT (f2 ltI (fNm 2) (fNm 0)))
  (yD (xX 1 (f2 uy (fNm 1) (fC (.int 1))))
  (xX 2 (f2 mulI (fNm 2) (fC (.int 2)))))))
  (xQ (fNm 1)))))
def uV:List D→Rs D:=yJ 3 zaa
def zad:Rho→Out :=
  (yD (xX 2 (fC (.str [])))
  (yD (jT (kO 3 (fR zdT (zf (fNm 1) zF))
  (yD (xX 2 (f2 jD (fO strD (zf (f2 modI (fNm 0) (fC (.int 2))) zF)) (fNm 2)))
  (xX 0 (f2 zcJ (fNm 0) (fC (.int 2)))))))
  (xQ (fNm 2))))
def uY:List D→Rs D:=yJ 4 zad
def j5:Rho→Out :=
  (yD (xX 1 (fA (ari 1 uV) (zf (fO qp (zf (fNm 0) zF)) zF)))
  (xQ (xV (fR zdT (zf (fO qp (zf (fNm 0) zF)) zF)) wD (fA (ari 2 uY) (zf (fNm 0) (zf (fNm 1) zF))) [1])))
def uR:List D→Rs D:=yJ 2 j5
def zcm:Rho→Out :=
  (yD (xX 2 (fA (ari 2 qJ) (zf (fNm 0) (zf (fNm 1) zF))))
  (yD (xX 3 (f2 zc4 (fNm 0) (fA (ari 1 uR) (zf (fNm 0) zF))))
  (xQ (fO mkT (zf (fM isS vJ (fC (.str [])) (xV (fI lsD (f2 ixD (fNm 2) (fC (.int 0)))) wD (f2 getD (fNm 1) (fNm 0)) [3])) (zf (f2 ixD (fNm 2) (fC (.int 1))) zF))))))
def uG:List D→Rs D:=yJ 4 zcm
def g_led:Rho→Out :=
  (yD (uc (fA (ari 2 zT) (zf (fNm 0) (zf (fNm 1) zF))))
  (yD (uc (fA (ari 2 zV) (zf (fNm 0) (zf (fNm 2) zF))))
  (xQ (fA (ari 2 uG) (zf (fNm 1) (zf (fNm 2) zF))))))
def zb3:List D→Rs D:=yJ 3 g_led
def uQ:Rho→Out :=
  (yD (xX 2 (fA (ari 1 uV) (zf (fO qp (zf (fNm 0) zF)) zF)))
  (yD (sIf (bOr (zbA (bT (f1 (zcy isStr) (fNm 1)))) (bT (f2 (eqD true) (f2 modI (fO qp (zf (fNm 1) zF)) (fNm 2)) (fC (.int 0)))))
  (sRs 4 (zf (fC (.str [116,104,101,115,101,32,97,114,101,32,110,111,32,119,104,111,108,101,32,119,111,114,100,115])) zF))
  sNx)
  (xQ (xV (fR rng3 (zf (fC (.int 0)) (zf (fO qp (zf (fNm 1) zF)) (zf (fNm 2) zF)))) wD (fSl (fNm 1) (yR (fNm 0)) (yR (f2 uy (fNm 0) (fNm 2)))) [1,2]))))
def ul:List D→Rs D:=yJ 3 uQ
def vB:Rho→Out :=
  (yD (xX 2 (f2 zc4 (fA (ari 1 uR) (zf (fNm 0) zF)) (fNm 0)))
  (yD (jT (kO 3 (fI lsD (fNm 1))
  (sIf (bT (f2 (hasD true) (fNm 3) (fNm 2)))
  (fun _=>.no)
  sNx)))
  (xQ (fM isS vJ (fC (.str [])) (xV (fI lsD (fNm 1)) wD (f2 getD (fNm 1) (fNm 0)) [2])))))
def wY:List D→Rs D:=yJ 4 vB
def jh:Rho→Out :=
  (yD (uc (fA (ari 2 zT) (zf (fNm 0) (zf (fNm 1) zF))))
  (yD (xX 4 (fA (ari 2 ul) (zf (fNm 1) (zf (fNm 2) zF))))
  (xQ (fA (ari 2 wY) (zf (fNm 1) (zf (fSl (fNm 4) (yR (fO maxD (zf (fNm 3) (zf (fC (.int 0)) zF)))) xO) zF))))))
def qz:List D→Rs D:=yJ 5 jh
def g_back:Rho→Out :=
  (xQ (fA (ari 4 qz) (zf (fNm 0) (zf (fNm 1) (zf (fNm 2) (zf (fC (.int 0)) zF))))))
def zaY:List D→Rs D:=yJ 3 g_back
end Pg
set_option maxHeartbeats 1000000
namespace L2
open PySem
section
variable {ft:Rho→Rs Bool}{fe:Rho→Rs D}{ρ0 ρ:Rho}{α β:Type}{i j:Nat}{g:Rho→Out}
theorem compD_of {l:List α}{enc:α→D}(p:α→Bool)(e:α→D)(h:∀x∈l,ft (ρ0.set 0 (.fz (enc x)))=.ok (p x)∧(p x=true→fe (ρ0.set 0 (.fz (enc x)))=.ok (e x))):wX ft fe ρ0 (l.map enc)=.ok ((l.filter p).map e):=by
 induction l with
 | nil=>rfl
 | cons x l ih =>
  have ih':=ih fun y hy=>h y (.tail _ hy)
  obtain⟨h1,h2⟩:=h x (.head _)
  rw[List.map_cons]
  unfold wX
  rw[h1]
  cases hp:p x with
  | false=>rw[List.filter_cons_of_neg (by simp[hp])];exact ih'
  | true =>
   rw[List.filter_cons_of_pos hp]
   simp only[h2 hp,ih']
   rfl
theorem xg {l:List α}{enc:α→D}(e:α→D)(h:∀x∈l,fe (ρ0.set 0 (.fz (enc x)))=.ok (e x)):wX wD fe ρ0 (l.map enc)=.ok (l.map e):=by
 have:=compD_of (ft:=wD) (fe:=fe) (ρ0:=ρ0) (l:=l) (enc:=enc) (fun _=>true) e fun x hx=>⟨rfl,fun _=>h x hx⟩
 rwa [List.filter_eq_self.mpr fun _ _=>rfl] at this
theorem compZ_map {l:List (α×β)}{enc:α→D}{enb:β→D}(e:α×β→D)(h:∀x∈l,fe ((ρ0.set 0 (.fz (enc x.1))).set 1 (.fz (enb x.2)))=.ok (e x)):qm wD fe ρ0 (l.map fun x=>enc x.1) (l.map fun x=>enb x.2)=.ok (l.map e):=by
 induction l with
 | nil=>rfl
 | cons x l ih =>
  have ih':=ih fun y hy=>h y (.tail _ hy)
  rw[List.map_cons,List.map_cons]
  unfold qm
  simp only[wD,h x (.head _)]
  rw[ih'];rfl
theorem zdH:∀(as bs:List D),qm ft fe ρ0 as bs=qm ft fe ρ0 ((as.zip bs).map (·.1)) ((as.zip bs).map (·.2))
 | [],_=>by simp[qm]
 | _::_,[]=>by simp[qm]
 | a::as,b::bs=>by
  rw[List.zip_cons_cons,List.map_cons,List.map_cons]
  unfold qm
  rw[zdH as bs]
theorem forZ_zip:∀(as bs:List D) (ρ:Rho),forZ i j g as bs ρ=forZ i j g ((as.zip bs).map (·.1)) ((as.zip bs).map (·.2)) ρ
 | [],_,ρ=>by simp[forZ]
 | _::_,[],ρ=>by simp[forZ]
 | a::as,b::bs,ρ=>by
  rw[List.zip_cons_cons,List.map_cons,List.map_cons,forZ.eq_1,forZ.eq_1]
  dsimp only
  cases g ((ρ.set i (.fz a)).set j (.fz b)) <;>first|rfl|exact forZ_zip as bs _
theorem qR {l:List α}{enc:α→D}(I:Nat→Rho→Prop)(h0:I 0 ρ)(hs:∀k x ρ,l[k]? = some x→I k ρ→∃ρ',g (ρ.set i (.fz (enc x)))=.nx ρ'∧I (k+1) ρ'):∃ρ',forD i g (l.map enc) ρ=.nx ρ'∧I l.length ρ':=by
 induction l generalizing ρ I with
 | nil=>exact⟨ρ,rfl,h0⟩
 | cons x l ih =>
  obtain⟨ρ1,e1,i1⟩:=hs 0 x ρ rfl h0
  obtain⟨ρ2,e2,i2⟩:=ih (I:=fun k=>I (k+1)) i1 fun k y ρ hy hI=>hs (k+1) y ρ (by simpa using hy) hI
  refine⟨ρ2,?_,i2⟩
  rw[List.map_cons]
  unfold forD
  rw[e1];exact e2
theorem forD_find {l:List α}{enc:α→D}(I:Rho→Prop)(p:α→Bool)(r:α→D)(h0:I ρ)(hs:∀x∈l,∀ρ,I ρ→if p x=true then g (ρ.set i (.fz (enc x)))=.rt (r x) else ∃ρ',g (ρ.set i (.fz (enc x)))=.nx ρ'∧I ρ') :
  match l.find? p with|some x=>forD i g (l.map enc) ρ=.rt (r x)|none=>∃ρ',forD i g (l.map enc) ρ=.nx ρ'∧I ρ':=by
 induction l generalizing ρ with
 | nil=>exact⟨ρ,rfl,h0⟩
 | cons x l ih =>
  have hx:=hs x (.head _) ρ h0
  cases hp:p x with
  | true =>
   rw[if_pos hp] at hx
   rw[List.find?_cons_of_pos hp]
   show forD i g (enc x::l.map enc) ρ=_
   unfold forD
   rw[hx]
  | false =>
   rw[if_neg (by simp[hp])] at hx
   obtain⟨ρ1,e1,i1⟩:=hx
   rw[List.find?_cons_of_neg (by simp[hp])]
   have:=ih i1 fun y hy=>hs y (.tail _ hy)
   have e:forD i g ((x::l).map enc) ρ=forD i g (l.map enc) ρ1:=by
    show forD i g (enc x::l.map enc) ρ=_
    rw[forD.eq_2,e1]
   rw[e];exact this
theorem forZ_find {l:List (α×β)}{enc:α→D}{enb:β→D}(I:Rho→Prop)(p:α×β→Bool)(r:α×β→D)(h0:I ρ)(hs:∀x∈l,∀ρ,I ρ→if p x=true then g ((ρ.set i (.fz (enc x.1))).set j (.fz (enb x.2)))=.rt (r x) else ∃ρ',g ((ρ.set i (.fz (enc x.1))).set j (.fz (enb x.2)))=.nx ρ'∧I ρ') :
  match l.find? p with|some x=>forZ i j g (l.map fun x=>enc x.1) (l.map fun x=>enb x.2) ρ=.rt (r x)|none=>∃ρ',forZ i j g (l.map fun x=>enc x.1) (l.map fun x=>enb x.2) ρ=.nx ρ'∧I ρ':=by
 induction l generalizing ρ with
 | nil=>exact⟨ρ,by simp[forZ],h0⟩
 | cons x l ih =>
  have hx:=hs x (.head _) ρ h0
  cases hp:p x with
  | true =>
   rw[if_pos hp] at hx
   rw[List.find?_cons_of_pos hp]
   show forZ i j g (enc x.1::l.map fun x=>enc x.1) (enb x.2::l.map fun x=>enb x.2) ρ=_
   unfold forZ
   rw[hx]
  | false =>
   rw[if_neg (by simp[hp])] at hx
   obtain⟨ρ1,e1,i1⟩:=hx
   rw[List.find?_cons_of_neg (by simp[hp])]
   have:=ih i1 fun y hy=>hs y (.tail _ hy)
   have e:forZ i j g ((x::l).map fun x=>enc x.1) ((x::l).map fun x=>enb x.2) ρ=forZ i j g (l.map fun x=>enc x.1) (l.map fun x=>enb x.2) ρ1:=by
    show forZ i j g (enc x.1::l.map fun x=>enc x.1) (enb x.2::l.map fun x=>enb x.2) ρ=_
    rw[forZ.eq_1,e1]
   rw[e];exact this
end
theorem yj {m:Nat}{g:Rho→Out}{ds:List D}{d:D}(h:g (ds.map .fz++List.replicate (m - ds.length) .no)=.rt d):yJ m g ds=.ok d:=by unfold yJ;rw[h]
theorem runD_nx {m:Nat}{g:Rho→Out}{ds:List D}{ρ:Rho}(h:g (ds.map .fz++List.replicate (m - ds.length) .no)=.nx ρ):yJ m g ds=.ok .non:=by unfold yJ;rw[h]
theorem zL {g h:Rho→Out}{ρ ρ':Rho}(e:g ρ=.nx ρ'):yD g h ρ=h ρ':=by unfold yD;rw[e]
theorem zco {g h:Rho→Out}{ρ:Rho}{d:D}(e:g ρ=.rt d):yD g h ρ=.rt d:=by unfold yD;rw[e]
theorem j7 {g:Rho→Out}{ρ ρ':Rho}(e:g ρ=.nx ρ'):jT g ρ=.nx ρ':=by unfold jT;rw[e]
theorem cutX_rt {g:Rho→Out}{ρ:Rho}{d:D}(e:g ρ=.rt d):jT g ρ=.rt d:=by unfold jT;rw[e]
theorem jz {i:Nat}{fi:Rho→Rs (List D)}{g:Rho→Out}{ρ:Rho}{ds:List D}(e:fi ρ=.ok ds):kO i fi g ρ=forD i g ds ρ:=by unfold kO;rw[e]
theorem sIf_t {ft:Rho→Rs Bool}{g h:Rho→Out}{ρ:Rho}(e:ft ρ=.ok true):sIf ft g h ρ=g ρ:=by unfold sIf;rw[e]
theorem sIf_f {ft:Rho→Rs Bool}{g h:Rho→Out}{ρ:Rho}(e:ft ρ=.ok false):sIf ft g h ρ=h ρ:=by unfold sIf;rw[e]
theorem yu {i:Nat}{f:Rho→Rs D}{ρ:Rho}{d:D}(e:f ρ=.ok d):xX i f ρ=.nx (ρ.set i (.fz d)):=by unfold xX;rw[e]
theorem wB {f:Rho→Rs D}{ρ:Rho}{d:D}(e:f ρ=.ok d):xQ f ρ=.rt d:=by unfold xQ;rw[e]
theorem sApp_ok {i:Nat}{f:Rho→Rs D}{ρ:Rho}{ds:List D}{d:D}(e:owL ρ i=some ds)(e2:f ρ=.ok d)(hl:ds.length<1000000):zbB i f ρ=.nx (ρ.set i (.ow (ds++[d]))):=by unfold zbB;simp only[e,e2,if_pos hl]
theorem uL {l m:List Nat}(h:l.length+m.length≤1000000):jD (.str l) (.str m)=some (.str (l++m)):=if_pos h
theorem wG {g:D→D→Option D}{fa fb:Rho→Rs D}{ρ:Rho}{a b d:D}(e1:fa ρ=.ok a)(e2:fb ρ=.ok b)(e3:g a b=some d):f2 g fa fb ρ=.ok d:=by unfold f2;rw[e1];show(fb ρ).bind _=_;rw[e2];show lf (g a b)=_;rw[e3];rfl
theorem qP {n:Nat}(h:n≤1000000):zdT [.int (n:Int)]=some ((List.range n).map fun(k:Nat)=>.int (k:Int)):=by
 have h1:-(2 ^ 62)≤(n:Int)∧(n:Int)<2 ^ 62:=by omega
 dsimp only [zdT]
 rw[if_pos h1,Int.toNat_natCast]
theorem zeh {g:List D→Option (List D)}{fs:Rho→Rs (List D)}{ρ:Rho}{ds es:List D}(e1:fs ρ=.ok ds)(e2:g ds=some es):fR g fs ρ=.ok es:=by unfold fR;rw[e1];show(match g ds with|some es=>Rs.ok es|none=>.no)=_;rw[e2]
theorem fO_ok {g:List D→Option D}{fs:Rho→Rs (List D)}{ρ:Rho}{ds:List D}{d:D}(e1:fs ρ=.ok ds)(e2:g ds=some d):fO g fs ρ=.ok d:=by unfold fO;rw[e1];show lf (g ds)=_;rw[e2];rfl
theorem qK {f g:Rho→Rs D}{ρ:Rho}{i j:Int}(e1:f ρ=.ok (.int i))(e2:g ρ=.ok (.int j)):f2 uy f g ρ=.ok (.int (i+j)):=wG e1 e2 rfl
theorem jq {f g:Rho→Rs D}{ρ:Rho}{i j:Int}(e1:f ρ=.ok (.int i))(e2:g ρ=.ok (.int j))(h1:Sm i)(h2:Sm j):f2 mulI f g ρ=.ok (.int (i*j)):=wG e1 e2 (if_pos ⟨h1,h2⟩)
theorem qD {f g:Rho→Rs D}{ρ:Rho}{i j:Int}(e1:f ρ=.ok (.int i))(e2:g ρ=.ok (.int j))(h:0<j):f2 modI f g ρ=.ok (.int (i % j)):=wG e1 e2 (if_pos h)
theorem jQ {f g:Rho→Rs D}{ρ:Rho}{i j:Int}(e1:f ρ=.ok (.int i))(e2:g ρ=.ok (.int j))(h:0<j)(h2:Sm j):f2 zcJ f g ρ=.ok (.int (i / j)):=wG e1 e2 (if_pos ⟨h,h2⟩)
theorem uO {i:Int}(h:-(2 ^ 100)<i∧i<2 ^ 100):Sm i:=by
 unfold Sm
 have h1:(2:Nat) ^ 100≤2 ^ 4000:=Nat.pow_le_pow_right (by decide) (by decide)
 have h2:i.natAbs<2 ^ 100:=by omega
 exact Nat.lt_of_lt_of_le h2 h1
theorem fCp_ok {fi:Rho→Rs (List D)}{ft:Rho→Rs Bool}{fe:Rho→Rs D}{caps:List Nat}{ρ:Rho}{ds es:List D}(e1:fi ρ=.ok ds)(hl:ds.length≤1000000)(e2:wX ft fe (xN 1 caps ρ) ds=.ok es):fCp fi ft fe caps ρ=.ok es:=by unfold fCp;rw[e1];show(if ds.length≤1000000 then wX ft fe (xN 1 caps ρ) ds else .no)=_;rw[if_pos hl,e2]
theorem qO {fi:Rho→Rs (List D)}{ft:Rho→Rs Bool}{fe:Rho→Rs D}{caps:List Nat}{ρ:Rho}{ds es:List D}(e1:fi ρ=.ok ds)(hl:ds.length≤1000000)(e2:wX ft fe (xN 1 caps ρ) ds=.ok es):xV fi ft fe caps ρ=.ok (.lst es):=by unfold xV;rw[fCp_ok e1 hl e2];rfl
theorem sSetO_ok {i:Nat}{f:Rho→Rs (List D)}{ρ:Rho}{d:List D}(e:f ρ=.ok d):vh i f ρ=.nx (ρ.set i (.ow d)):=by unfold vh;rw[e]
theorem fLs_ok {f:Rho→Rs (List D)}{ρ:Rho}{d:List D}(e:f ρ=.ok d):fLs f ρ=.ok (.lst d):=by unfold fLs;rw[e];rfl
theorem fM_ok {chk:D→Bool}{g:D→D→Option D}{fa fb:Rho→Rs D}{ρ:Rho}{a b d:D}(e1:fa ρ=.ok a)(hc:chk a=true)(e2:fb ρ=.ok b)(e3:g a b=some d):fM chk g fa fb ρ=.ok d:=by unfold fM;rw[e1];show(if chk a=true then _ else _)=_;rw[if_pos hc,e2];show lf (g a b)=_;rw[e3];rfl
theorem sPop_ok {i j:Nat}{f:Rho→Rs D}{ρ:Rho}{ds:List D}{k:Nat}{d:D}(e:owL ρ i=some ds)(e1:f ρ=.ok (.int (k:Int)))(hk:k<1000000)(e2:ds[k]? = some d):zcX i j f ρ=.nx ((ρ.set i (.ow (ds.eraseIdx k))).set j (.fz d)):=by
 unfold zcX
 have h:(0:Int)≤(k:Int)∧(k:Int)<1000000:=by omega
 simp only[e,e1,if_pos h,Int.toNat_natCast,e2]
theorem fFl_ok {i:Nat}{f:Rho→Rs D}{ρ:Rho}{ds:List D}{d:D}(e:owL ρ i=some ds)(e1:f (ρ.set i (.fz (.lst ds)))=.ok d)(h:d.fl=true):fFl i f ρ=.ok d:=by unfold fFl;simp only[e,e1,if_pos h]
theorem sIce_ok {i:Nat}{g:Rho→Out}{ρ:Rho}{ds:List D}(e:ρ[i]? = some (.ow ds)):zbG i g ρ=g (ρ.set i (.fz (.lst ds))):=by unfold zbG;rw[e]
theorem fL_ok {g:List D→Option (List D)}{fs:Rho→Rs (List D)}{ρ:Rho}{ds es:List D}(e1:fs ρ=.ok ds)(e2:g ds=some es):fL g fs ρ=.ok es:=by unfold fL;rw[e1];show lf' (g ds)=_;rw[e2];rfl
theorem yt {fa:Rho→Rs D}{fs:Rho→Rs (List D)}{ρ:Rho}{a:D}{as:List D}(e1:fa ρ=.ok a)(e2:fs ρ=.ok as):zf fa fs ρ=.ok (a::as):=by unfold zf;rw[e1];show(fs ρ).bind _=_;rw[e2];rfl
theorem zc1 {α β:Type}(f:α→β):∀(l:List α) (k:Nat),(l.map f).eraseIdx k=(l.eraseIdx k).map f
 | [],_=>rfl
 | _::_,0=>rfl
 | a::l,k+1=>by show f a::(l.map f).eraseIdx k=_;rw[zc1 f l k];rfl
theorem inV_T (x:List Nat)(ps:List (List Nat)):inV (.str (T x)) (vT ps)=decide (x∈ps):=by
 unfold inV vT
 rw[List.any_map,Bool.eq_iff_iff,List.any_eq_true,decide_eq_true_eq]
 constructor
 ·rintro⟨l,hl,e⟩
  have e':(T l == T x)=true:=e
  rw[T_beq] at e'
  rw[← (beq_iff_eq.mp e')]
  exact hl
 ·intro hx
  refine⟨x,hx,?_⟩
  show(T x == T x)=true
  simp
def sT (ls:List (List Nat)):List D:=ls.map .str
theorem zb7 (a b:List (List Nat)):sT a++sT b=sT (a++b):=by unfold sT;rw[List.map_append]
theorem all_fl (ls:List (List Nat)):(sT ls).all D.fl=true:=by simp[sT,D.fl]
theorem jf (ls:List (List Nat)):(sT ls).all isS=true:=by simp[sT,isS]
theorem jy (ls:List (List Nat)):(sT ls).map unS=ls:=by
 unfold sT;rw[List.map_map]
 exact(List.map_congr_left fun x _=>rfl).trans (List.map_id ls)
theorem vI:∀ls:List (List Nat),D.pls (sT ls)=true
 | []=>rfl
 | l::ls=>by show((D.str l).pl&&D.pls (sT ls))=true;rw[vI ls];rfl
theorem yC (ls:List (List Nat)):(sT ls).length=ls.length:=by simp[sT]
theorem inV_sT (x:List Nat)(ls:List (List Nat)):inV (D.str x).toV ((sT ls).map D.toV)=decide (x∈ls):=by
 have e:(sT ls).map D.toV=vT ls:=by unfold sT vT;rw[List.map_map];rfl
 rw[e];exact inV_T x ls
theorem inQ_sT (neg:Bool)(x:List Nat)(ls:List (List Nat)):inQ neg (.str x) (sT ls)=some (.bl (if neg then !decide (x∈ls) else decide (x∈ls))):=by
 unfold inQ
 rw[if_pos ⟨rfl,all_fl ls⟩,inV_sT]
end L2
namespace Pg
open PySem L2 My
theorem zcV {α:Type}(l:List α)(m:Nat):zbF l none (some (m:Int))=l.take m:=by
 unfold zbF
 rw[HT.sIx_none,HT.sIx_nat,List.drop_zero,Nat.sub_zero,← List.take_take,List.take_length]
theorem zcN {α:Type}(l:List α)(m:Nat):zbF l (some (m:Int)) none=l.drop m:=by
 unfold zbF
 rw[HT.sIx_none,HT.sIx_nat,List.take_of_length_le (by rw[List.length_drop];exact Nat.le_refl _)]
 rcases Nat.le_total m l.length with h|h
 ·rw[Nat.min_eq_left h]
 ·rw[Nat.min_eq_right h,List.drop_of_length_le (Nat.le_refl _),List.drop_of_length_le h]
theorem zeg (l m:List Nat):PyData.eqv (.str (T l)) (.str (T m))=decide (l=m):=by
 show(T l == T m)=_
 rw[T_beq]
 by_cases h:l=m
 ·subst h;simp
 ·rw[decide_eq_false h];simpa using h
theorem zd1 (neg:Bool)(l m:List Nat):eqD neg (.str l) (.str m)=some (.bl (if neg then !decide (l=m) else decide (l=m))):=by
 unfold eqD
 rw[if_pos ⟨rfl,rfl,by show(PyData.str (T l)).depth≤60;simp[PyData.depth]⟩]
 show some (D.bl (if neg=true then !PyData.eqv (.str (T l)) (.str (T m)) else PyData.eqv (.str (T l)) (.str (T m))))=_
 rw[zeg]
theorem all_of {α:Type}(l:List α)(b:α→Bool):allD [.lst (l.map fun x=>D.bl (b x))]=some (.bl (l.all b)):=by
 show(if (l.map fun x=>D.bl (b x)).all isB=true then some (D.bl ((l.map fun x=>D.bl (b x)).all unB)) else none)=_
 have h:(l.map fun x=>D.bl (b x)).all isB=true:=by rw[List.all_map];exact List.all_eq_true.mpr fun _ _=>rfl
 rw[if_pos h,List.all_map];rfl
theorem any_of {α:Type}(l:List α)(b:α→Bool):anyD [.lst (l.map fun x=>D.bl (b x))]=some (.bl (l.any b)):=by
 show(if (l.map fun x=>D.bl (b x)).all isB=true then some (D.bl ((l.map fun x=>D.bl (b x)).any unB)) else none)=_
 have h:(l.map fun x=>D.bl (b x)).all isB=true:=by rw[List.all_map];exact List.all_eq_true.mpr fun _ _=>rfl
 rw[if_pos h,List.any_map];rfl
theorem tail_cut (ps:List (List Nat)):zbF (sT ps) (some 1) none=sT ps.tail:=by
 have:=zcN (sT ps) 1
 rw[show((1:Nat):Int)=1 from rfl] at this
 rw[this,List.drop_one];exact(List.map_tail).symm
theorem zip_sT (ps qs:List (List Nat)):(sT ps).zip (sT qs)=(ps.zip qs).map fun x=>(D.str x.1,D.str x.2):=by
 unfold sT;rw[List.zip_map];rfl
def isText (m:Nat)(l:List Nat):Bool:=l.all fun c=>decide (c∈abcd.take m)
theorem zds {m:Nat}(m4:m≤4){l:List Nat}(h:LetOk m l):isText m l=true:=by
 unfold isText
 rw[List.all_eq_true]
 exact fun c hc=>decide_eq_true (vQ m4 (h c hc))
theorem jb (m:Nat)(l:List Nat)(hl:l.length≤1000000):yM [.int m,.str l]=.ok (.bl (isText m l)):=by
 have e:wX wD (f2 (inC false) (fNm 0) (fNm 1)) [.no,.fz (.str (abcd.take m))] (l.map fun c=>.str [c])=.ok (l.map fun c=>.bl (decide (c∈abcd.take m))):=xg _ fun c hc=>rfl
 have e2:zbF [97,98,99,100] none (some (m:Int))=abcd.take m:=zcV abcd m
 simp only[yM,vU,yJ,yD,xQ,uc,xX,sIf,zaz,zbG,jT,sRs,kO,ql,sWh,zbB,zcX,vK,vh,zax,sPut,fSD,owL,odL,sNx,fC,fNm,f1,f2,zF,zf,fO,fA,fIf,tru,bT,zbA,bAnd,bOr,zbE,fOr,zd5,lf,lf',Rs.bind,isN,mkT,mkL,ari,fI,lsD,tpD,sgD,fR,fCp,xV,fLs,fL,fL1,fL2,szL,fCz,xN,xO,yR,fSl,slD,fM,fCh,zcy,isInt,isBool,isStr,isTup,qp,ltI,leI,gtI,geI,ltS,uy,subI,D.pl,D.py,isS,List.getElem?_cons_zero,List.getElem?_cons_succ,List.set_cons_zero,List.set_cons_succ,List.map_cons,List.map_nil,List.length_cons,List.length_nil,List.replicate,List.append_nil,List.nil_append,List.cons_append,Nat.reduceSub,Nat.reduceAdd,Nat.reduceLeDiff,Bool.not_true,Bool.not_false,if_true,if_false,Bool.false_eq_true,reduceIte,Nat.zero_add,List.getElem?_nil,vI,e2,e,List.length_map,if_pos hl,all_of,isText]
theorem zc6 (ps:List (List Nat))(h:ps.length≤1000000):vZ [.tup (sT ps)]=.ok (.bl (rising ps)):=by
 have e2:qm wD (f2 ltS (fNm 0) (fNm 1)) [.no,.no] (sT ps) (sT ps.tail)=.ok ((ps.zip ps.tail).map fun x=>.bl (decide (x.1<x.2))):=by
  rw[zdH]
  rw[zip_sT,List.map_map,List.map_map]
  exact compZ_map (enc:=D.str) (enb:=D.str) _ fun x hx=>rfl
 simp only[vZ,uT,yJ,yD,xQ,uc,xX,sIf,zaz,zbG,jT,sRs,kO,ql,sWh,zbB,zcX,vK,vh,zax,sPut,fSD,owL,odL,sNx,fC,fNm,f1,f2,zF,zf,fO,fA,fIf,tru,bT,zbA,bAnd,bOr,zbE,fOr,zd5,lf,lf',Rs.bind,isN,mkT,mkL,ari,fI,lsD,tpD,sgD,fR,fCp,xV,fLs,fL,fL1,fL2,szL,fCz,xN,xO,yR,fSl,slD,fM,fCh,zcy,isInt,isBool,isStr,isTup,qp,ltI,leI,gtI,geI,ltS,uy,subI,D.pl,D.py,isS,List.getElem?_cons_zero,List.getElem?_cons_succ,List.set_cons_zero,List.set_cons_succ,List.map_cons,List.map_nil,List.length_cons,List.length_nil,List.replicate,List.append_nil,List.nil_append,List.cons_append,Nat.reduceSub,Nat.reduceAdd,Nat.reduceLeDiff,Bool.not_true,Bool.not_false,if_true,if_false,Bool.false_eq_true,reduceIte,Nat.zero_add,List.getElem?_nil,vI,tail_cut,e2,yC,if_pos h,all_of,rising]
theorem zdM (i:Int):jw [.int i]=.ok (.bl true):=rfl
theorem zbN (i lo hi:Int):vf [.int i,.int lo,.int hi]=.ok (.bl (decide (lo≤i)&&decide (i≤hi))):=by
 simp only[vf,vY,yJ,yD,xQ,uc,xX,sIf,zaz,zbG,jT,sRs,kO,ql,sWh,zbB,zcX,vK,vh,zax,sPut,fSD,owL,odL,sNx,fC,fNm,f1,f2,zF,zf,fO,fA,fIf,tru,bT,zbA,bAnd,bOr,zbE,fOr,zd5,lf,lf',Rs.bind,isN,mkT,mkL,ari,fI,lsD,tpD,sgD,fR,fCp,xV,fLs,fL,fL1,fL2,szL,fCz,xN,xO,yR,fSl,slD,fM,fCh,zcy,isInt,isBool,isStr,isTup,qp,ltI,leI,gtI,geI,ltS,uy,subI,D.pl,D.py,isS,List.getElem?_cons_zero,List.getElem?_cons_succ,List.set_cons_zero,List.set_cons_succ,List.map_cons,List.map_nil,List.length_cons,List.length_nil,List.replicate,List.append_nil,List.nil_append,List.cons_append,Nat.reduceSub,Nat.reduceAdd,Nat.reduceLeDiff,Bool.not_true,Bool.not_false,if_true,if_false,Bool.false_eq_true,reduceIte,Nat.zero_add,List.getElem?_nil,vI,zdM]
 by_cases h:lo≤i
 ·simp[h]
 ·simp[h]
theorem zdJ (i:Int):yg [.int i]=.ok (.bl (decide (2≤i)&&decide (i≤4))):=by
 simp only[yg,yp,yJ,yD,xQ,uc,xX,sIf,zaz,zbG,jT,sRs,kO,ql,sWh,zbB,zcX,vK,vh,zax,sPut,fSD,owL,odL,sNx,fC,fNm,f1,f2,zF,zf,fO,fA,fIf,tru,bT,zbA,bAnd,bOr,zbE,fOr,zd5,lf,lf',Rs.bind,isN,mkT,mkL,ari,fI,lsD,tpD,sgD,fR,fCp,xV,fLs,fL,fL1,fL2,szL,fCz,xN,xO,yR,fSl,slD,fM,fCh,zcy,isInt,isBool,isStr,isTup,qp,ltI,leI,gtI,geI,ltS,uy,subI,D.pl,D.py,isS,List.getElem?_cons_zero,List.getElem?_cons_succ,List.set_cons_zero,List.set_cons_succ,List.map_cons,List.map_nil,List.length_cons,List.length_nil,List.replicate,List.append_nil,List.nil_append,List.cons_append,Nat.reduceSub,Nat.reduceAdd,Nat.reduceLeDiff,Bool.not_true,Bool.not_false,if_true,if_false,Bool.false_eq_true,reduceIte,Nat.zero_add,List.getElem?_nil,vI,zbN]
 rfl
theorem zd6 (ps:List (List Nat))(x:List Nat)(h:ps.length≤1000000):zY [.tup (sT ps),.str x]=.ok (.bl (isInner ps x)):=by
 have e:wX wD (zbE (fM isS xr (fNm 0) (fNm 1)) (f2 (eqD true) (fNm 0) (fNm 1))) [.no,.fz (.str x)] (sT ps)=.ok (ps.map fun p=>.bl (x.isPrefixOf p && !decide (p=x))):=xg _ fun p hp=>by
  simp only[yJ,yD,xQ,uc,xX,sIf,zaz,zbG,jT,sRs,kO,ql,sWh,zbB,zcX,vK,vh,zax,sPut,fSD,owL,odL,sNx,fC,fNm,f1,f2,zF,zf,fO,fA,fIf,tru,bT,zbA,bAnd,bOr,zbE,fOr,zd5,lf,lf',Rs.bind,isN,mkT,mkL,ari,fI,lsD,tpD,sgD,fR,fCp,xV,fLs,fL,fL1,fL2,szL,fCz,xN,xO,yR,fSl,slD,fM,fCh,zcy,isInt,isBool,isStr,isTup,qp,ltI,leI,gtI,geI,ltS,uy,subI,D.pl,D.py,isS,List.getElem?_cons_zero,List.getElem?_cons_succ,List.set_cons_zero,List.set_cons_succ,List.map_cons,List.map_nil,List.length_cons,List.length_nil,List.replicate,List.append_nil,List.nil_append,List.cons_append,Nat.reduceSub,Nat.reduceAdd,Nat.reduceLeDiff,Bool.not_true,Bool.not_false,if_true,if_false,Bool.false_eq_true,reduceIte,Nat.zero_add,List.getElem?_nil,vI,xr,zd1]
  cases x.isPrefixOf p <;>simp
 simp only[zY,qQ,yJ,yD,xQ,uc,xX,sIf,zaz,zbG,jT,sRs,kO,ql,sWh,zbB,zcX,vK,vh,zax,sPut,fSD,owL,odL,sNx,fC,fNm,f1,f2,zF,zf,fO,fA,fIf,tru,bT,zbA,bAnd,bOr,zbE,fOr,zd5,lf,lf',Rs.bind,isN,mkT,mkL,ari,fI,lsD,tpD,sgD,fR,fCp,xV,fLs,fL,fL1,fL2,szL,fCz,xN,xO,yR,fSl,slD,fM,fCh,zcy,isInt,isBool,isStr,isTup,qp,ltI,leI,gtI,geI,ltS,uy,subI,D.pl,D.py,isS,List.getElem?_cons_zero,List.getElem?_cons_succ,List.set_cons_zero,List.set_cons_succ,List.map_cons,List.map_nil,List.length_cons,List.length_nil,List.replicate,List.append_nil,List.nil_append,List.cons_append,Nat.reduceSub,Nat.reduceAdd,Nat.reduceLeDiff,Bool.not_true,Bool.not_false,if_true,if_false,Bool.false_eq_true,reduceIte,Nat.zero_add,List.getElem?_nil,vI,e,yC,if_pos h,any_of]
 rfl
theorem zd3 (ps:List (List Nat))(x:List Nat)(h:ps.length≤1000000):zZ [.tup (sT ps),.str x]=.ok (.bl (yF ps x)):=by
 have e:wX wD (fOr (fM isS xr (fNm 0) (fNm 1)) (fM isS xr (fNm 1) (fNm 0))) [.no,.fz (.str x)] (sT ps)=.ok (ps.map fun p=>.bl (x.isPrefixOf p || p.isPrefixOf x)):=xg _ fun p hp=>by
  simp only[yJ,yD,xQ,uc,xX,sIf,zaz,zbG,jT,sRs,kO,ql,sWh,zbB,zcX,vK,vh,zax,sPut,fSD,owL,odL,sNx,fC,fNm,f1,f2,zF,zf,fO,fA,fIf,tru,bT,zbA,bAnd,bOr,zbE,fOr,zd5,lf,lf',Rs.bind,isN,mkT,mkL,ari,fI,lsD,tpD,sgD,fR,fCp,xV,fLs,fL,fL1,fL2,szL,fCz,xN,xO,yR,fSl,slD,fM,fCh,zcy,isInt,isBool,isStr,isTup,qp,ltI,leI,gtI,geI,ltS,uy,subI,D.pl,D.py,isS,List.getElem?_cons_zero,List.getElem?_cons_succ,List.set_cons_zero,List.set_cons_succ,List.map_cons,List.map_nil,List.length_cons,List.length_nil,List.replicate,List.append_nil,List.nil_append,List.cons_append,Nat.reduceSub,Nat.reduceAdd,Nat.reduceLeDiff,Bool.not_true,Bool.not_false,if_true,if_false,Bool.false_eq_true,reduceIte,Nat.zero_add,List.getElem?_nil,vI,xr]
  cases x.isPrefixOf p <;>simp
 simp only[zZ,qT,yJ,yD,xQ,uc,xX,sIf,zaz,zbG,jT,sRs,kO,ql,sWh,zbB,zcX,vK,vh,zax,sPut,fSD,owL,odL,sNx,fC,fNm,f1,f2,zF,zf,fO,fA,fIf,tru,bT,zbA,bAnd,bOr,zbE,fOr,zd5,lf,lf',Rs.bind,isN,mkT,mkL,ari,fI,lsD,tpD,sgD,fR,fCp,xV,fLs,fL,fL1,fL2,szL,fCz,xN,xO,yR,fSl,slD,fM,fCh,zcy,isInt,isBool,isStr,isTup,qp,ltI,leI,gtI,geI,ltS,uy,subI,D.pl,D.py,isS,List.getElem?_cons_zero,List.getElem?_cons_succ,List.set_cons_zero,List.set_cons_succ,List.map_cons,List.map_nil,List.length_cons,List.length_nil,List.replicate,List.append_nil,List.nil_append,List.cons_append,Nat.reduceSub,Nat.reduceAdd,Nat.reduceLeDiff,Bool.not_true,Bool.not_false,if_true,if_false,Bool.false_eq_true,reduceIte,Nat.zero_add,List.getElem?_nil,vI,e,yC,if_pos h,any_of]
 rfl
theorem jJ (ps:List (List Nat)):yL [.tup (sT ps)]=.ok (match wU ps with|some x=>.tup [.str x.1,.str x.2] | none=>.non):=by
 have key:=forZ_find (i:=1) (j:=2) (g:=sIf (bT (fM isS xr (fNm 2) (fNm 1))) (xQ (fO mkT (zf (fNm 1) (zf (fNm 2) zF)))) sNx) (ρ:=[.fz (.tup (sT ps)),.no,.no]) (l:=ps.zip ps.tail) (enc:=D.str) (enb:=D.str)
  (fun ρ=>∃a b,ρ=[.fz (.tup (sT ps)),a,b]) (fun x=>x.1.isPrefixOf x.2) (fun x=>.tup [.str x.1,.str x.2]) ⟨_,_,rfl⟩ (fun x hx ρ ⟨a,b,e⟩=>by
   subst e
   cases hp:x.1.isPrefixOf x.2 with
   | true=>simp only[yJ,yD,xQ,uc,xX,sIf,zaz,zbG,jT,sRs,kO,ql,sWh,zbB,zcX,vK,vh,zax,sPut,fSD,owL,odL,sNx,fC,fNm,f1,f2,zF,zf,fO,fA,fIf,tru,bT,zbA,bAnd,bOr,zbE,fOr,zd5,lf,lf',Rs.bind,isN,mkT,mkL,ari,fI,lsD,tpD,sgD,fR,fCp,xV,fLs,fL,fL1,fL2,szL,fCz,xN,xO,yR,fSl,slD,fM,fCh,zcy,isInt,isBool,isStr,isTup,qp,ltI,leI,gtI,geI,ltS,uy,subI,D.pl,D.py,isS,List.getElem?_cons_zero,List.getElem?_cons_succ,List.set_cons_zero,List.set_cons_succ,List.map_cons,List.map_nil,List.length_cons,List.length_nil,List.replicate,List.append_nil,List.nil_append,List.cons_append,Nat.reduceSub,Nat.reduceAdd,Nat.reduceLeDiff,Bool.not_true,Bool.not_false,if_true,if_false,Bool.false_eq_true,reduceIte,Nat.zero_add,List.getElem?_nil,vI,xr,hp]
   | false=>simp only[yJ,yD,xQ,uc,xX,sIf,zaz,zbG,jT,sRs,kO,ql,sWh,zbB,zcX,vK,vh,zax,sPut,fSD,owL,odL,sNx,fC,fNm,f1,f2,zF,zf,fO,fA,fIf,tru,bT,zbA,bAnd,bOr,zbE,fOr,zd5,lf,lf',Rs.bind,isN,mkT,mkL,ari,fI,lsD,tpD,sgD,fR,fCp,xV,fLs,fL,fL1,fL2,szL,fCz,xN,xO,yR,fSl,slD,fM,fCh,zcy,isInt,isBool,isStr,isTup,qp,ltI,leI,gtI,geI,ltS,uy,subI,D.pl,D.py,isS,List.getElem?_cons_zero,List.getElem?_cons_succ,List.set_cons_zero,List.set_cons_succ,List.map_cons,List.map_nil,List.length_cons,List.length_nil,List.replicate,List.append_nil,List.nil_append,List.cons_append,Nat.reduceSub,Nat.reduceAdd,Nat.reduceLeDiff,Bool.not_true,Bool.not_false,if_true,if_false,Bool.false_eq_true,reduceIte,Nat.zero_add,List.getElem?_nil,vI,xr,hp];exact⟨_,rfl,_,_,rfl⟩)
 have e4:forZ 1 2 (sIf (bT (fM isS xr (fNm 2) (fNm 1))) (xQ (fO mkT (zf (fNm 1) (zf (fNm 2) zF)))) sNx) (sT ps) (sT ps.tail) [.fz (.tup (sT ps)),.no,.no]=forZ 1 2 (sIf (bT (fM isS xr (fNm 2) (fNm 1))) (xQ (fO mkT (zf (fNm 1) (zf (fNm 2) zF)))) sNx) ((ps.zip ps.tail).map fun x=>D.str x.1) ((ps.zip ps.tail).map fun x=>D.str x.2) [.fz (.tup (sT ps)),.no,.no]:=by
  rw[forZ_zip,zip_sT,List.map_map,List.map_map];rfl
 have e5:ql 1 2 (fNm 0) (fSl (fNm 0) (yR (fC (.int 1))) xO) (sIf (bT (fM isS xr (fNm 2) (fNm 1))) (xQ (fO mkT (zf (fNm 1) (zf (fNm 2) zF)))) sNx) [.fz (.tup (sT ps)),.no,.no]=forZ 1 2 (sIf (bT (fM isS xr (fNm 2) (fNm 1))) (xQ (fO mkT (zf (fNm 1) (zf (fNm 2) zF)))) sNx) ((ps.zip ps.tail).map fun x=>D.str x.1) ((ps.zip ps.tail).map fun x=>D.str x.2) [.fz (.tup (sT ps)),.no,.no]:=by
  rw[← e4]
  unfold ql
  have e6:fSl (fNm 0) (yR (fC (.int 1))) xO [.fz (.tup (sT ps)),.no,.no]=.ok (.tup (sT ps.tail)):=by rw[← tail_cut];rfl
  rw[e6];rfl
 unfold wU
 cases hf:(ps.zip ps.tail).find? fun x=>x.1.isPrefixOf x.2 with
 | some x =>
  rw[hf] at key
  have e7:xj [.fz (.tup (sT ps)),.no,.no]=.rt (.tup [.str x.1,.str x.2]):=by
   unfold xj yD jT
   rw[e5,key]
  exact yj e7
 | none =>
  rw[hf] at key
  obtain⟨ρ',k1,a,b,rfl⟩:=key
  have e7:xj [.fz (.tup (sT ps)),.no,.no]=.rt .non:=by
   unfold xj yD jT
   rw[e5,k1];rfl
  exact yj e7
def Pcs (m:Nat)(ps:List (List Nat)):Prop:=2≤m∧m≤4∧ps≠[]∧ps.length≤32∧∀p∈ps,LetOk m p∧p≠[]∧p.length≤9
theorem zem {m:Nat}{ps:List (List Nat)}(h:∀p∈ps,p.length≤1000000):wX wD (zbE (fA (ari 2 yM) (zf (fNm 1) (zf (fNm 0) zF))) (f2 (eqD true) (fNm 0) (fC (.str [])))) [.no,.fz (.int m)] (sT ps)=.ok (ps.map fun p=>.bl (isText m p && !decide (p=[]))):=xg _ fun p hp=>by
  simp only[yJ,yD,xQ,uc,xX,sIf,zaz,zbG,jT,sRs,kO,ql,sWh,zbB,zcX,vK,vh,zax,sPut,fSD,owL,odL,sNx,fC,fNm,f1,f2,zF,zf,fO,fA,fIf,tru,bT,zbA,bAnd,bOr,zbE,fOr,zd5,lf,lf',Rs.bind,isN,mkT,mkL,ari,fI,lsD,tpD,sgD,fR,fCp,xV,fLs,fL,fL1,fL2,szL,fCz,xN,xO,yR,fSl,slD,fM,fCh,zcy,isInt,isBool,isStr,isTup,qp,ltI,leI,gtI,geI,ltS,uy,subI,D.pl,D.py,isS,List.getElem?_cons_zero,List.getElem?_cons_succ,List.set_cons_zero,List.set_cons_succ,List.map_cons,List.map_nil,List.length_cons,List.length_nil,List.replicate,List.append_nil,List.nil_append,List.cons_append,Nat.reduceSub,Nat.reduceAdd,Nat.reduceLeDiff,Bool.not_true,Bool.not_false,if_true,if_false,Bool.false_eq_true,reduceIte,Nat.zero_add,List.getElem?_nil,vI,jb m p (h p hp),zd1]
  cases isText m p <;>simp
theorem zcf {m:Nat}{ps:List (List Nat)}(h:Pcs m ps):wg [.int m,.tup (sT ps)]=.ok (.bl (rising ps)):=by
 obtain⟨m2,m4,hne,hl,hp⟩:=h
 have h1:∀p∈ps,p.length≤1000000:=fun p q=>by have:=(hp p q).2.2;omega
 have e1:(ps.all fun p=>isText m p && !decide (p=[]))=true:=List.all_eq_true.mpr fun p q=>by
  obtain⟨a,b,_⟩:=hp p q
  rw[zds m4 a,decide_eq_false b];rfl
 have hpos:1≤ps.length:=List.length_pos_iff.mpr hne
 have d1:decide ((2:Int)≤(m:Int))=true:=decide_eq_true (by omega)
 have d2:decide ((m:Int)≤4)=true:=decide_eq_true (by omega)
 have d3:decide ((1:Int)≤(ps.length:Int))=true:=decide_eq_true (by omega)
 have d4:decide ((ps.length:Int)≤32)=true:=decide_eq_true (by omega)
 have hz:ps.length≤1000000:=by omega
 simp only[wg,vL,yJ,yD,xQ,uc,xX,sIf,zaz,zbG,jT,sRs,kO,ql,sWh,zbB,zcX,vK,vh,zax,sPut,fSD,owL,odL,sNx,fC,fNm,f1,f2,zF,zf,fO,fA,fIf,tru,bT,zbA,bAnd,bOr,zbE,fOr,zd5,lf,lf',Rs.bind,isN,mkT,mkL,ari,fI,lsD,tpD,sgD,fR,fCp,xV,fLs,fL,fL1,fL2,szL,fCz,xN,xO,yR,fSl,slD,fM,fCh,zcy,isInt,isBool,isStr,isTup,qp,ltI,leI,gtI,geI,ltS,uy,subI,D.pl,D.py,isS,List.getElem?_cons_zero,List.getElem?_cons_succ,List.set_cons_zero,List.set_cons_succ,List.map_cons,List.map_nil,List.length_cons,List.length_nil,List.replicate,List.append_nil,List.nil_append,List.cons_append,Nat.reduceSub,Nat.reduceAdd,Nat.reduceLeDiff,Bool.not_true,Bool.not_false,if_true,if_false,Bool.false_eq_true,reduceIte,Nat.zero_add,List.getElem?_nil,vI,zdJ,d1,d2,Bool.and_self,yC,d3,d4,if_pos hz,zem h1,all_of,e1,zc6 ps hz]
theorem sIter {m:Nat}{ρ:Rho}(h:ρ[0]? = some (.fz (.int (m:Int)))):fI sgD (fSl (fC (.str [97,98,99,100])) xO (yR (fNm 0))) ρ=.ok ((abcd.take m).map fun c=>.str [c]):=by
 have e2:zbF [97,98,99,100] none (some (m:Int))=abcd.take m:=zcV abcd m
 simp only[fI,fSl,fC,xO,yR,fNm,h,Rs.bind,slD,lf,e2,sgD]
theorem gone_on_eq {m:Nat}(xs:List (List Nat))(hl:∀x∈xs,x.length≤999999)(hn:4*xs.length≤999999):yS [.int m,.lst (sT xs)]=.ok (.lst (sT (zP m xs))):=by
 have hab:(abcd.take m).length≤4:=by rw[List.length_take];exact Nat.min_le_right _ _
 have inner:∀(x:List Nat) (acc:List (List Nat)) (s:Sl),x.length≤999999→acc.length+4≤999999→∃s',kO 4 (fI sgD (fSl (fC (.str [97,98,99,100])) xO (yR (fNm 0)))) (zbB 2 (f2 jD (fNm 3) (fNm 4))) [.fz (.int m),.fz (.lst (sT xs)),.ow (sT acc),.fz (.str x),s]=.nx [.fz (.int m),.fz (.lst (sT xs)),.ow (sT (acc++(abcd.take m).map fun c=>x++[c])),.fz (.str x),s']:=by
  intro x acc s hx ha
  rw[jz (sIter rfl)]
  obtain ⟨ρ',e,s',rfl⟩:=qR (i:=4) (g:=zbB 2 (f2 jD (fNm 3) (fNm 4))) (l:=abcd.take m) (enc:=fun c=>D.str [c]) (ρ:=[.fz (.int m),.fz (.lst (sT xs)),.ow (sT acc),.fz (.str x),s])
   (fun k ρ=>∃s',ρ=[.fz (.int m),.fz (.lst (sT xs)),.ow (sT (acc++((abcd.take m).take k).map fun c=>x++[c])),.fz (.str x),s']) ⟨s,by simp⟩ (fun k c ρ hc ⟨s',e⟩=>by
    subst e
    have hk:k<(abcd.take m).length:=(List.getElem?_eq_some_iff.mp hc).1
    have e3:(abcd.take m).take (k+1)=(abcd.take m).take k++[c]:=by rw[List.take_add_one,hc];rfl
    have hlen:(sT (acc++((abcd.take m).take k).map fun c=>x++[c])).length<1000000:=by
     rw[yC,List.length_append,List.length_map,List.length_take];omega
    have hz:x.length+1≤1000000:=by omega
    refine⟨_,sApp_ok rfl (wG (a:=.str x) (b:=.str [c]) rfl rfl (uL hz)) hlen,.fz (.str [c]),?_⟩
    have e5:sT (acc++((abcd.take m).take (k+1)).map fun c=>x++[c])=sT (acc++((abcd.take m).take k).map fun c=>x++[c])++[D.str (x++[c])]:=by
     rw[e3,List.map_append,← List.append_assoc,← zb7 (acc++_)];rfl
    rw[e5];rfl)
  refine⟨s',e.trans ?_⟩
  rw[List.take_of_length_le (Nat.le_refl _)]
 have outer:=qR (i:=3) (g:=kO 4 (fI sgD (fSl (fC (.str [97,98,99,100])) xO (yR (fNm 0)))) (zbB 2 (f2 jD (fNm 3) (fNm 4)))) (l:=xs) (enc:=D.str) (ρ:=[.fz (.int m),.fz (.lst (sT xs)),.ow [],.no,.no])
  (fun k ρ=>∃s s',ρ=[.fz (.int m),.fz (.lst (sT xs)),.ow (sT (zP m (xs.take k))),s,s']) ⟨.no,.no,rfl⟩ (fun k x ρ hx ⟨s,s',e⟩=>by
   subst e
   have hk:k<xs.length:=(List.getElem?_eq_some_iff.mp hx).1
   have e3:xs.take (k+1)=xs.take k++[x]:=by rw[List.take_add_one,hx];rfl
   have hg:(zP m (xs.take k)).length≤4*k:=by
    have:(zP m (xs.take k)).length≤4*(xs.take k).length:=by
     unfold zP
     generalize xs.take k=ys
     induction ys with
     | nil=>simp
     | cons y ys ih=>simp only[List.flatMap_cons,List.length_append,List.length_map,List.length_cons];omega
    rw[List.length_take] at this;omega
   obtain⟨s2,e4⟩:=inner x (zP m (xs.take k)) s' (hl x (List.mem_of_getElem? hx)) (by omega)
   refine⟨_,e4,.fz (.str x),s2,?_⟩
   rw[e3]
   unfold zP
   rw[List.flatMap_append]
   simp)
 obtain⟨ρ',e,s,s',rfl⟩:=outer
 rw[List.take_of_length_le (Nat.le_refl _)] at e
 refine yj ?_
 show qx [.fz (.int m),.fz (.lst (sT xs)),.no,.no,.no]=_
 unfold qx
 refine(zL (g:=vh 2 (fL szL zF)) (ρ':=[.fz (.int m),.fz (.lst (sT xs)),.ow [],.no,.no]) rfl).trans ?_
 refine(zL (j7 ((jz (ds:=sT xs) rfl).trans e))).trans ?_
 rfl
theorem fta_round {m:Nat}{ps:List (List Nat)}(hl:ps.length≤1000000)(xs:List (List Nat))(hx:∀x∈xs,x.length≤999)(hn:xs.length≤99999)(s3 s4:Sl) :
  match (zP m xs).find? (yF ps) with
  | some x=>yD (xX 3 (fA (ari 2 yS) (zf (fNm 0) (zf (fNm 2) zF)))) (yD (kO 4 (fI lsD (fNm 3)) (sIf (bT (fA (ari 2 zZ) (zf (fNm 1) (zf (fNm 4) zF)))) (xQ (fNm 4)) sNx)) (vK 2 (fCp (fI lsD (fNm 3)) (bT (fA (ari 2 zY) (zf (fNm 1) (zf (fNm 0) zF)))) (fNm 0) [1]))) [.fz (.int m),.fz (.tup (sT ps)),.fz (.lst (sT xs)),s3,s4]=.rt (.str x)
  | none=>∃s3' s4',yD (xX 3 (fA (ari 2 yS) (zf (fNm 0) (zf (fNm 2) zF)))) (yD (kO 4 (fI lsD (fNm 3)) (sIf (bT (fA (ari 2 zZ) (zf (fNm 1) (zf (fNm 4) zF)))) (xQ (fNm 4)) sNx)) (vK 2 (fCp (fI lsD (fNm 3)) (bT (fA (ari 2 zY) (zf (fNm 1) (zf (fNm 0) zF)))) (fNm 0) [1]))) [.fz (.int m),.fz (.tup (sT ps)),.fz (.lst (sT xs)),s3,s4]=.nx [.fz (.int m),.fz (.tup (sT ps)),.fz (.lst (sT ((zP m xs).filter (isInner ps)))),s3',s4']:=by
 have eg:=gone_on_eq (m:=m) xs (fun x q=>by have:=hx x q;omega) (by omega)
 have e1:(xX 3 (fA (ari 2 yS) (zf (fNm 0) (zf (fNm 2) zF)))) [.fz (.int m),.fz (.tup (sT ps)),.fz (.lst (sT xs)),s3,s4]=.nx [.fz (.int m),.fz (.tup (sT ps)),.fz (.lst (sT xs)),.fz (.lst (sT (zP m xs))),s4]:=by
  refine yu (d:=.lst (sT (zP m xs))) ?_
  exact eg
 have hgl:(zP m xs).length≤1000000:=by
  have hab:(abcd.take m).length≤4:=by rw[List.length_take];exact Nat.min_le_right _ _
  have:(zP m xs).length≤4*xs.length:=by
   unfold zP
   clear hn hx eg e1
   induction xs with
   | nil=>simp
   | cons y ys ih=>simp only[List.flatMap_cons,List.length_append,List.length_map,List.length_cons];omega
  omega
 have key:=forD_find (i:=4) (g:=sIf (bT (fA (ari 2 zZ) (zf (fNm 1) (zf (fNm 4) zF)))) (xQ (fNm 4)) sNx) (ρ:=[.fz (.int m),.fz (.tup (sT ps)),.fz (.lst (sT xs)),.fz (.lst (sT (zP m xs))),s4]) (l:=zP m xs) (enc:=D.str)
  (fun ρ=>∃a,ρ=[.fz (.int m),.fz (.tup (sT ps)),.fz (.lst (sT xs)),.fz (.lst (sT (zP m xs))),a]) (yF ps) (fun x=>.str x) ⟨_,rfl⟩ (fun x hx ρ ⟨a,e⟩=>by
   subst e
   have ea:(bT (fA (ari 2 zZ) (zf (fNm 1) (zf (fNm 4) zF)))) [.fz (.int m),.fz (.tup (sT ps)),.fz (.lst (sT xs)),.fz (.lst (sT (zP m xs))),.fz (.str x)]=.ok (yF ps x):=by
    show(zZ [.tup (sT ps),.str x]).bind tru=_
    rw[zd3 ps x hl];rfl
   cases hp:yF ps x with
   | true=>rw[if_pos rfl];rw[hp] at ea;exact(sIf_t ea).trans rfl
   | false=>rw[if_neg Bool.false_ne_true];rw[hp] at ea;exact⟨_,(sIf_f ea).trans rfl,_,rfl⟩)
 cases hf:(zP m xs).find? (yF ps) with
 | some x =>
  rw[hf] at key
  refine(zL e1).trans (zco ((jz (ds:=sT (zP m xs)) rfl).trans key))
 | none =>
  rw[hf] at key
  obtain⟨ρ',k1,a,rfl⟩:=key
  have ec:wX (bT (fA (ari 2 zY) (zf (fNm 1) (zf (fNm 0) zF)))) (fNm 0) [.no,.fz (.tup (sT ps))] (sT (zP m xs))=.ok (((zP m xs).filter (isInner ps)).map .str):=compD_of _ _ fun x hx=>⟨by
   show(zY [.tup (sT ps),.str x]).bind tru=_
   rw[zd6 ps x hl];rfl,fun _=>rfl⟩
  refine⟨.fz (.lst (sT (zP m xs))),a,(zL e1).trans ((zL ((jz (ds:=sT (zP m xs)) rfl).trans k1)).trans ?_)⟩
  have e5:fCp (fI lsD (fNm 3)) (bT (fA (ari 2 zY) (zf (fNm 1) (zf (fNm 0) zF)))) (fNm 0) [1] [.fz (.int m),.fz (.tup (sT ps)),.fz (.lst (sT xs)),.fz (.lst (sT (zP m xs))),a]=.ok (sT ((zP m xs).filter (isInner ps))):=by
   show(if (sT (zP m xs)).length≤1000000 then wX _ _ [.no,.fz (.tup (sT ps))] (sT (zP m xs)) else .no)=_
   rw[yC,if_pos hgl]
   exact ec
  unfold vK
  rw[e5];rfl
theorem zdB:∀(xs ys:List (List Nat)),PyData.eqvAll (D.pys (sT xs)) (D.pys (sT ys))=decide (xs=ys)
 | [],[]=>rfl
 | [],_::_=>rfl
 | _::_,[]=>rfl
 | x::xs,y::ys=>by
  show(PyData.eqv (.str (T x)) (.str (T y))&&PyData.eqvAll (D.pys (sT xs)) (D.pys (sT ys)))=_
  rw[zdB xs ys,zeg]
  by_cases h:x=y <;>by_cases h2:xs=ys <;>simp[h,h2]
theorem dep_sT:∀xs:List (List Nat),PyData.depthAll (D.pys (sT xs))=0
 | []=>rfl
 | x::xs=>by
  show max (PyData.depth (.str (T x))) (PyData.depthAll (D.pys (sT xs)))=0
  rw[dep_sT xs];rfl
theorem zex (neg:Bool)(xs ys:List (List Nat)):eqD neg (.lst (sT xs)) (.lst (sT ys))=some (.bl (if neg then !decide (xs=ys) else decide (xs=ys))):=by
 have h:(D.lst (sT xs)).pl=true∧(D.lst (sT ys)).pl=true∧(D.lst (sT xs)).py.depth≤60:=⟨vI xs,vI ys,by show PyData.depthAll (D.pys (sT xs))+1≤60;rw[dep_sT];omega⟩
 unfold eqD
 rw[if_pos h]
 show some (D.bl (if neg=true then !PyData.eqvAll (D.pys (sT xs)) (D.pys (sT ys)) else PyData.eqvAll (D.pys (sT xs)) (D.pys (sT ys))))=_
 rw[zdB]
theorem fta_loop {m:Nat}(m4:m≤4){ps:List (List Nat)}(hl:ps.length≤1000000)(h8:∀p∈ps,p.length≤9):∀(k L n:Nat) (xs:List (List Nat)) (s3 s4:Sl),L+k=10→(∀x∈xs,x.length=L∧(L=0∨isInner ps x=true))→xs.length≤4 ^ L→k<n →
  match fta m ps k xs with
  | some x=>whD (bT (f2 (eqD true) (fNm 2) (fO mkL zF))) (yD (xX 3 (fA (ari 2 yS) (zf (fNm 0) (zf (fNm 2) zF)))) (yD (kO 4 (fI lsD (fNm 3)) (sIf (bT (fA (ari 2 zZ) (zf (fNm 1) (zf (fNm 4) zF)))) (xQ (fNm 4)) sNx)) (vK 2 (fCp (fI lsD (fNm 3)) (bT (fA (ari 2 zY) (zf (fNm 1) (zf (fNm 0) zF)))) (fNm 0) [1])))) n [.fz (.int m),.fz (.tup (sT ps)),.fz (.lst (sT xs)),s3,s4]=.rt (.str x)
  | none=>∃ρ',whD (bT (f2 (eqD true) (fNm 2) (fO mkL zF))) (yD (xX 3 (fA (ari 2 yS) (zf (fNm 0) (zf (fNm 2) zF)))) (yD (kO 4 (fI lsD (fNm 3)) (sIf (bT (fA (ari 2 zZ) (zf (fNm 1) (zf (fNm 4) zF)))) (xQ (fNm 4)) sNx)) (vK 2 (fCp (fI lsD (fNm 3)) (bT (fA (ari 2 zY) (zf (fNm 1) (zf (fNm 0) zF)))) (fNm 0) [1])))) n [.fz (.int m),.fz (.tup (sT ps)),.fz (.lst (sT xs)),s3,s4]=.nx ρ':=by
 intro k
 induction k with
 | zero =>
  intro L n xs s3 s4 hL hx hn hk
  have:xs=[]:=by
   cases xs with
   | nil=>rfl
   | cons x xs =>
    obtain⟨e1,e2⟩:=hx x (.head _)
    rcases e2 with e2|e2
    ·omega
    ·have:=zdl e2 h8;omega
  subst this
  obtain⟨n',rfl⟩:∃n',n=n'+1:=⟨n - 1,by omega⟩
  refine⟨[.fz (.int m),.fz (.tup (sT ps)),.fz (.lst (sT [])),s3,s4],?_⟩
  unfold whD
  have e0:(bT (f2 (eqD true) (fNm 2) (fO mkL zF))) [.fz (.int m),.fz (.tup (sT ps)),.fz (.lst (sT [])),s3,s4]=.ok false:=by
   show(lf (eqD true (.lst (sT [])) (.lst (sT [])))).bind tru=_
   rw[zex];rfl
  rw[e0]
 | succ k ih =>
  intro L n xs s3 s4 hL hx hn hk
  obtain⟨n',rfl⟩:∃n',n=n'+1:=⟨n - 1,by omega⟩
  have et:(bT (f2 (eqD true) (fNm 2) (fO mkL zF))) [.fz (.int m),.fz (.tup (sT ps)),.fz (.lst (sT xs)),s3,s4]=.ok (!decide (xs=[])):=by
   show(lf (eqD true (.lst (sT xs)) (.lst (sT [])))).bind tru=_
   rw[zex];rfl
  by_cases h0:xs=[]
  ·have ef:fta m ps (k+1) xs=none:=by unfold fta;rw[if_pos h0]
   rw[ef]
   refine⟨[.fz (.int m),.fz (.tup (sT ps)),.fz (.lst (sT xs)),s3,s4],?_⟩
   unfold whD
   rw[et,decide_eq_true h0]
   rfl
  ·have ef:fta m ps (k+1) xs=match (zP m xs).find? (yF ps) with|some x=>some x|none=>fta m ps k ((zP m xs).filter (isInner ps)):=by
    rw[fta.eq_2,if_neg h0]
    all_goals (cases (zP m xs).find? (yF ps) <;>rfl)
   rw[decide_eq_false h0] at et
   have hLs:L≤8:=by
    cases xs with
    | nil=>exact absurd rfl h0
    | cons x xs =>
     obtain⟨e1,e2⟩:=hx x (.head _)
     rcases e2 with e2|e2
     ·omega
     ·have:=zdl e2 h8;omega
   have hpow:(4:Nat) ^ L≤4 ^ 8:=Nat.pow_le_pow_right (by decide) hLs
   have h47:(4:Nat) ^ 8=65536:=by decide
   have R:=fta_round (m:=m) hl xs (fun x q=>by have:=(hx x q).1;omega) (by omega) s3 s4
   rw[ef]
   cases hf:(zP m xs).find? (yF ps) with
   | some x =>
    rw[hf] at R
    show whD _ _ (n'+1) _=_
    unfold whD
    rw[et]
    simp only[Bool.not_false]
    rw[R]
   | none =>
    rw[hf] at R
    obtain⟨s3',s4',R⟩:=R
    have hx':∀x∈(zP m xs).filter (isInner ps),x.length=L+1∧(L+1=0∨isInner ps x=true):=fun x q=>by
     obtain⟨q1,q2⟩:=List.mem_filter.mp q
     obtain⟨y,hy,c,hc,rfl⟩:=j6 q1
     exact⟨by rw[List.length_append,(hx y hy).1];rfl,.inr q2⟩
    have hn':((zP m xs).filter (isInner ps)).length≤4 ^ (L+1):=by
     have h1:((zP m xs).filter (isInner ps)).length≤(zP m xs).length:=List.length_filter_le _ _
     have h2:=goneOn_len m m4 xs
     rw[Nat.pow_succ];omega
    have:=ih (L+1) n' _ s3' s4' (by omega) hx' hn' (by omega)
    have es:whD (bT (f2 (eqD true) (fNm 2) (fO mkL zF))) (yD (xX 3 (fA (ari 2 yS) (zf (fNm 0) (zf (fNm 2) zF)))) (yD (kO 4 (fI lsD (fNm 3)) (sIf (bT (fA (ari 2 zZ) (zf (fNm 1) (zf (fNm 4) zF)))) (xQ (fNm 4)) sNx)) (vK 2 (fCp (fI lsD (fNm 3)) (bT (fA (ari 2 zY) (zf (fNm 1) (zf (fNm 0) zF)))) (fNm 0) [1])))) (n'+1) [.fz (.int m),.fz (.tup (sT ps)),.fz (.lst (sT xs)),s3,s4]=whD (bT (f2 (eqD true) (fNm 2) (fO mkL zF))) (yD (xX 3 (fA (ari 2 yS) (zf (fNm 0) (zf (fNm 2) zF)))) (yD (kO 4 (fI lsD (fNm 3)) (sIf (bT (fA (ari 2 zZ) (zf (fNm 1) (zf (fNm 4) zF)))) (xQ (fNm 4)) sNx)) (vK 2 (fCp (fI lsD (fNm 3)) (bT (fA (ari 2 zY) (zf (fNm 1) (zf (fNm 0) zF)))) (fNm 0) [1])))) n' [.fz (.int m),.fz (.tup (sT ps)),.fz (.lst (sT ((zP m xs).filter (isInner ps)))),s3',s4']:=by
     rw[whD.eq_2,et]
     simp only[Bool.not_false]
     rw[R]
    simp only[es]
    exact this
theorem zcR {m:Nat}(m4:m≤4){ps:List (List Nat)}(hl:ps.length≤1000000)(h8:∀p∈ps,p.length≤9):yP [.int m,.tup (sT ps)]=.ok (match wW m ps with|some x=>.str x|none=>.non):=by
 have:=fta_loop m4 hl h8 10 0 2000 [[]] .no .no rfl (fun x hx=>by rw[List.mem_singleton.mp hx];exact⟨rfl,.inl rfl⟩) (by decide) (by decide)
 unfold wW
 cases hf:fta m ps 10 [[]] with
 | some x =>
  rw[hf] at this
  refine yj ?_
  exact(zL (ρ':=[.fz (.int m),.fz (.tup (sT ps)),.fz (.lst (sT [[]])),.no,.no]) rfl).trans (zco (cutX_rt this))
 | none =>
  rw[hf] at this
  obtain⟨ρ',e⟩:=this
  refine yj ?_
  exact(zL (ρ':=[.fz (.int m),.fz (.tup (sT ps)),.fz (.lst (sT [[]])),.no,.no]) rfl).trans ((zL (j7 e)).trans rfl)
def papD (m:Nat)(ps:List (List Nat)):D:=match wU ps with
 | some x=>.tup [.str x.1,.str x.2]
 | none=>(match wW m ps with|some x=>.str x|none=>.non)
theorem zbM {m:Nat}(m4:m≤4){ps:List (List Nat)}(hl:ps.length≤1000000)(h8:∀p∈ps,p.length≤9):wN [.int m,.tup (sT ps)]=.ok (papD m ps):=by
 refine yj ?_
 show wz [.fz (.int m),.fz (.tup (sT ps)),.no]=_
 unfold wz papD
 cases hf:wU ps with
 | some x =>
  have e1:xX 2 (fA (ari 1 yL) (zf (fNm 1) zF)) [.fz (.int m),.fz (.tup (sT ps)),.no]=.nx [.fz (.int m),.fz (.tup (sT ps)),.fz (.tup [.str x.1,.str x.2])]:=yu (d:=.tup [.str x.1,.str x.2]) (by
   show yL [.tup (sT ps)]=_
   rw[jJ,hf])
  exact(zL e1).trans (zco rfl)
 | none =>
  have e1:xX 2 (fA (ari 1 yL) (zf (fNm 1) zF)) [.fz (.int m),.fz (.tup (sT ps)),.no]=.nx [.fz (.int m),.fz (.tup (sT ps)),.fz .non]:=yu (d:=.non) (by
   show yL [.tup (sT ps)]=_
   rw[jJ,hf])
  refine(zL e1).trans ((zL (ρ':=[.fz (.int m),.fz (.tup (sT ps)),.fz .non]) rfl).trans (wB ?_))
  show yP [.int m,.tup (sT ps)]=_
  rw[zcR m4 hl h8]
theorem pap_none {m:Nat}{ps:List (List Nat)}:isN false (papD m ps)=some (.bl ((wU ps).isNone&&(wW m ps).isNone)):=by
 unfold papD
 cases wU ps with
 | some x=>rfl
 | none=>cases wW m ps <;>rfl
theorem is_book_eq {m:Nat}{ps:List (List Nat)}(h:Pcs m ps):qU [.int m,.tup (sT ps)]=.ok (.bl (isBook m ps)):=by
 have h8:∀p∈ps,p.length≤9:=fun p q=>(h.2.2.2.2 p q).2.2
 have hl:ps.length≤1000000:=by have:=h.2.2.2.1;omega
 refine yj (wB ?_)
 show(wg [.int m,.tup (sT ps)]).bind (fun a=>(tru a).bind fun b=>if b=true then(wN [.int m,.tup (sT ps)]).bind (fun a=>lf (isN false a)) else .ok (.bl false))=_
 rw[zcf h,zbM h.2.1 hl h8]
 show(if rising ps=true then lf (isN false (papD m ps)) else Rs.ok (D.bl false))=_
 rw[pap_none]
 unfold isBook
 cases rising ps <;>simp[lf]
theorem wk {m:Nat}{ps:List (List Nat)}(h:Pcs m ps)(hr:isBook m ps=true):zT [.int m,.tup (sT ps)]=.ok .non:=by
 refine runD_nx (ρ:=[.fz (.int m),.fz (.tup (sT ps))]) ?_
 refine(sIf_f ?_).trans rfl
 show((qU [.int m,.tup (sT ps)]).bind tru).bind (fun b=>Rs.ok !b)=_
 rw[is_book_eq h,hr];rfl
theorem vm {m:Nat}(m4:m≤4){l:List Nat}(h:LetOk m l)(hl:l.length≤1000000):zV [.int m,.str l]=.ok .non:=by
 refine runD_nx (ρ:=[.fz (.int m),.fz (.str l)]) ?_
 refine(sIf_f ?_).trans rfl
 show((yM [.int m,.str l]).bind tru).bind (fun b=>Rs.ok !b)=_
 rw[jb m l hl,zds m4 h];rfl
theorem zbb {ps:List (List Nat)}{l:List Nat}(hl:l.length≤1000):qJ [.tup (sT ps),.str l]=.ok (.tup [.lst (sT (yd ps l).1),.str (yd ps l).2]):=by
 have step:=qR (i:=4) (g:=yD (xX 3 (f2 jD (fNm 3) (fNm 4))) (sIf (bT (f2 (inD false) (fNm 3) (fNm 0))) (yD (zbB 2 (fNm 3)) (xX 3 (fC (.str [])))) sNx)) (l:=l) (enc:=fun c=>D.str [c]) (ρ:=[.fz (.tup (sT ps)),.fz (.str l),.ow [],.fz (.str []),.no])
  (fun k ρ=>∃s,ρ=[.fz (.tup (sT ps)),.fz (.str l),.ow (sT (yd ps (l.take k)).1),.fz (.str (yd ps (l.take k)).2),s]) ⟨.no,rfl⟩ (fun k c ρ hc ⟨s,e⟩=>by
   subst e
   have hk:k<l.length:=(List.getElem?_eq_some_iff.mp hc).1
   have e3:l.take (k+1)=l.take k++[c]:=by rw[List.take_add_one,hc];rfl
   have e4:yd ps (l.take (k+1))=zQ ps (yd ps (l.take k)) c:=by rw[e3];unfold yd;rw[List.foldl_append];rfl
   have b1:=(uZ ps (l.take k)).1
   have b2:=(uZ ps (l.take k)).2
   rw[List.length_take] at b1 b2
   rw[e4]
   generalize yd ps (l.take k)=st at *
   obtain⟨acc,left⟩:=st
   have e5:xX 3 (f2 jD (fNm 3) (fNm 4)) [.fz (.tup (sT ps)),.fz (.str l),.ow (sT acc),.fz (.str left),.fz (.str [c])]=.nx [.fz (.tup (sT ps)),.fz (.str l),.ow (sT acc),.fz (.str (left++[c])),.fz (.str [c])]:=yu (d:=.str (left++[c])) (wG (a:=.str left) (b:=.str [c]) rfl rfl (uL (by show left.length+1≤_;dsimp only at b2;omega)))
   have e6:(bT (f2 (inD false) (fNm 3) (fNm 0))) [.fz (.tup (sT ps)),.fz (.str l),.ow (sT acc),.fz (.str (left++[c])),.fz (.str [c])]=.ok (decide (left++[c]∈ps)):=by
    show(lf (inQ false (.str (left++[c])) (sT ps))).bind tru=_
    rw[inQ_sT];rfl
   unfold zQ
   by_cases hm:left++[c]∈ps
   ·rw[decide_eq_true hm] at e6
    rw[if_pos hm]
    have hlen:(sT acc).length<1000000:=by rw[yC];dsimp only at b1;omega
    refine⟨_,(zL e5).trans ((sIf_t e6).trans ((zL (sApp_ok rfl rfl hlen)).trans (yu (d:=.str []) rfl))),.fz (.str [c]),?_⟩
    have e7:sT (acc++[left++[c]])=sT acc++[D.str (left++[c])]:=by rw[← zb7];rfl
    show _=[_,_,Sl.ow (sT (acc++[left++[c]])),_,_]
    rw[e7];rfl
   ·rw[decide_eq_false hm] at e6
    rw[if_neg hm]
    exact⟨_,(zL e5).trans ((sIf_f e6).trans rfl),_,rfl⟩)
 obtain⟨ρ',e,s,rfl⟩:=step
 rw[List.take_of_length_le (Nat.le_refl _)] at e
 refine yj ?_
 show jO [.fz (.tup (sT ps)),.fz (.str l),.no,.no,.no]=_
 unfold jO
 refine(zL (ρ':=[.fz (.tup (sT ps)),.fz (.str l),.ow [],.no,.no]) rfl).trans ?_
 refine(zL (ρ':=[.fz (.tup (sT ps)),.fz (.str l),.ow [],.fz (.str []),.no]) rfl).trans ?_
 refine(zL (j7 ((jz (ds:=l.map fun c=>.str [c]) rfl).trans e))).trans ?_
 rfl
theorem cut_eq {m:Nat}{ps:List (List Nat)}(h:Pcs m ps)(hb:isBook m ps=true){l:List Nat}(hx:LetOk m l)(hl:l.length≤1000):zdO [.int m,.tup (sT ps),.str l]=.ok (.tup [.lst (sT (yd ps l).1),.str (yd ps l).2]):=by
 refine yj ((zL (ρ':=[.fz (.int m),.fz (.tup (sT ps)),.fz (.str l)]) ?_).trans ((zL (ρ':=[.fz (.int m),.fz (.tup (sT ps)),.fz (.str l)]) ?_).trans (wB ?_)))
 ·show(match zT [.int m,.tup (sT ps)] with | .ok _=>Out.nx [.fz (.int m),.fz (.tup (sT ps)),.fz (.str l)] | .ex n=>.ex n | .no=>.no)=_
  rw[wk h hb]
 ·show(match zV [.int m,.str l] with | .ok _=>Out.nx [.fz (.int m),.fz (.tup (sT ps)),.fz (.str l)] | .ex n=>.ex n | .no=>.no)=_
  rw[vm h.2.1 hx (by omega)]
 ·exact zbb hl
def dK (ks:List (List Nat)):List (List Nat×D):=ks.map fun k=>(k,.bl true)
def zdr (ns:List Int)(k:Int):Int:=if ns=[] then 7*k else ns.getD (k % ns.length).toNat 0+6553*(k / ns.length)
def vM (ns:List Int)(k m:Int):Int :=
 let c1:=(zdr ns k % 2147483563*69069+104723*(k+1)) % 2147483563
 let c2:=(c1*c1+c1 / 3) % 2147483399
 (c2*c2+c2 / 7) % 2147483647 / 11 % m
theorem yO (ns:List Int)(k:Int){m:Int}(hm:0<m):0≤vM ns k m∧vM ns k m<m:=by
 unfold vM
 exact⟨Int.emod_nonneg _ (by omega),Int.emod_lt_of_pos _ (by omega)⟩
def scD (ns:List Int):D:=.lst (ns.map .int)
theorem pls_ints:∀ns:List Int,D.pls (ns.map .int)=true
 | []=>rfl
 | n::ns=>by show((D.int n).pl&&D.pls (ns.map .int))=true;rw[pls_ints ns];rfl
theorem dep_ints:∀ns:List Int,PyData.depthAll (D.pys (ns.map .int))=0
 | []=>rfl
 | n::ns=>by show max 0 (PyData.depthAll (D.pys (ns.map .int)))=0;rw[dep_ints ns];rfl
theorem eqD_script (ns:List Int):eqD false (scD ns) (.lst [])=some (.bl (decide (ns=[]))):=by
 have h:(scD ns).pl=true∧(D.lst []).pl=true∧(scD ns).py.depth≤60:=⟨pls_ints ns,rfl,by show PyData.depthAll (D.pys (ns.map .int))+1≤60;rw[dep_ints];omega⟩
 unfold eqD
 rw[if_pos h]
 cases ns <;>rfl
theorem cell_eq (ns:List Int)(hn:ns.length≤63)(k:Int)(h0:0≤k)(h1:k<1000):vN [scD ns,.int k]=.ok (.int (zdr ns k)):=by
 refine yj ?_
 show vo [.fz (scD ns),.fz (.int k)]=_
 unfold vo zdr
 have e1:(bT (f2 (eqD false) (fNm 0) (fO mkL zF))) [.fz (scD ns),.fz (.int k)]=.ok (decide (ns=[])):=by
  show(lf (eqD false (scD ns) (.lst []))).bind tru=_
  rw[eqD_script];rfl
 by_cases h:ns=[]
 ·rw[decide_eq_true h] at e1
  rw[if_pos h]
  exact zco ((sIf_t e1).trans (wB (jq rfl rfl (uO (by omega)) (uO (by omega)))))
 ·rw [decide_eq_false h] at e1
  rw[if_neg h]
  refine(zL (ρ':=[.fz (scD ns),.fz (.int k)]) ((sIf_f e1).trans rfl)).trans (wB ?_)
  have hl:0<ns.length:=List.length_pos_iff.mpr h
  have el:fO qp (zf (fNm 0) zF) [.fz (scD ns),.fz (.int k)]=.ok (.int (ns.length:Int)):=by
   show Rs.ok (D.int ((ns.map D.int).length:Int))=_
   rw[List.length_map]
  have hp:(0:Int)<(ns.length:Int):=by omega
  have r1:=Int.emod_nonneg k (show(ns.length:Int)≠0 by omega)
  have r2:=Int.emod_lt_of_pos k hp
  have hd:0≤k / (ns.length:Int):=Int.ediv_nonneg h0 (by omega)
  have hd2:k / (ns.length:Int)≤k:=Int.ediv_le_self _ h0
  obtain⟨j,hj⟩:=Int.eq_ofNat_of_zero_le r1
  have hjl:j<ns.length:=by omega
  have ei:f2 ixD (fNm 0) (f2 modI (fNm 1) (fO qp (zf (fNm 0) zF))) [.fz (scD ns),.fz (.int k)]=.ok (.int (ns.getD (k % (ns.length:Int)).toNat 0)):=by
   refine wG (a:=scD ns) (b:=.int (k % (ns.length:Int))) rfl (qD rfl el hp) ?_
   show atI (ns.map D.int) (k % (ns.length:Int))=_
   rw[hj]
   have:=atI_nat (xs:=ns.map D.int) (j:=j) (v:=.int ns[j]) (by rw[List.getElem?_map,List.getElem?_eq_getElem hjl];rfl)
   rw[this,Int.toNat_natCast,List.getD_eq_getElem?_getD,List.getElem?_eq_getElem hjl];rfl
  exact qK ei (jq rfl (jQ rfl el hp (uO (by omega))) (uO (by omega)) (uO (by omega)))
theorem qY (ns:List Int)(hn:ns.length≤63)(k m:Int)(h0:0≤k)(h1:k<1000)(hm:0<m):zH [scD ns,.int k,.int m]=.ok (.int (vM ns k m)):=by
 refine yj ?_
 show wV [.fz (scD ns),.fz (.int k),.fz (.int m),.no]=_
 have hD:∀c1 c2,(zdr ns k % 2147483563*69069+104723*(k+1)) % 2147483563=c1→(c1*c1+c1 / 3) % 2147483399=c2→vM ns k m=(c2*c2+c2 / 7) % 2147483647 / 11 % m:=by
  rintro _ _ rfl rfl;rfl
 unfold wV
 have ec:fA (ari 2 vN) (zf (fNm 0) (zf (fNm 1) zF)) [.fz (scD ns),.fz (.int k),.fz (.int m),.no]=.ok (.int (zdr ns k)):=cell_eq ns hn k h0 h1
 have a1:=Int.emod_nonneg (zdr ns k) (show(2147483563:Int)≠0 by decide)
 have a2:=Int.emod_lt_of_pos (zdr ns k) (show(0:Int)<2147483563 by decide)
 generalize hc1:(zdr ns k % 2147483563*69069+104723*(k+1)) % 2147483563=c1
 have b1:0≤c1:=hc1▸Int.emod_nonneg _ (by decide)
 have b2:c1<2147483563:=hc1▸Int.emod_lt_of_pos _ (by decide)
 refine(zL (ρ':=[.fz (scD ns),.fz (.int k),.fz (.int m),.fz (.int c1)]) ?_).trans ?_
 ·rw[← hc1]
  exact yu (qD (qK (jq (qD ec rfl (by decide)) rfl (uO (by omega)) (uO (by decide))) (jq rfl (qK rfl rfl) (uO (by decide)) (uO (by omega)))) rfl (by decide))
 generalize hc2:(c1*c1+c1 / 3) % 2147483399=c2
 have d1:0≤c2:=hc2▸Int.emod_nonneg _ (by decide)
 have d2:c2<2147483399:=hc2▸Int.emod_lt_of_pos _ (by decide)
 refine(zL (ρ':=[.fz (scD ns),.fz (.int k),.fz (.int m),.fz (.int c2)]) ?_).trans ?_
 ·rw[← hc2]
  exact yu (qD (qK (jq rfl rfl (uO (by omega)) (uO (by omega))) (jQ rfl rfl (by decide) (uO (by decide)))) rfl (by decide))
 rw[hD c1 c2 hc1 hc2]
 exact wB (qD (jQ (qD (qK (jq rfl rfl (uO (by omega)) (uO (by omega))) (jQ rfl rfl (by decide) (uO (by decide)))) rfl (by decide)) rfl (by decide) (uO (by decide))) rfl hm)
def zcu (ns:List Int)(at' many long:Int):List Nat:=(List.range (vM ns at' (long+1)).toNat).map fun(i:Nat)=>abcd.getD (vM ns (at'+1+(i:Int)) many).toNat 0
theorem textF_ok (ns:List Int)(at':Int){m:Nat}(m2:2≤m)(m4:m≤4)(long:Int):LetOk m (zcu ns at' m long):=fun c hc=>by
 obtain⟨i,_,rfl⟩:=List.mem_map.mp hc
 have hr:=yO ns (at'+1+(i:Int)) (m:=m) (by omega)
 obtain⟨j,hj⟩:=Int.eq_ofNat_of_zero_le hr.1
 rw[hj] at hr ⊢
 rw[Int.toNat_natCast]
 have hj4:j<m:=by omega
 have:∀j<4,abcd.getD j 0=97+j:=by decide
 rw[this j (by omega)];omega
theorem zba (ns:List Int)(at' m:Int){long:Nat}:(zcu ns at' m long).length≤long:=by
 unfold zcu
 rw[List.length_map,List.length_range]
 have:=yO ns at' (m:=(long:Int)+1) (by omega)
 omega
theorem zdV {j:Nat}(h:j<4):ixD (.str [97,98,99,100]) (.int (j:Int))=some (.str [abcd.getD j 0]):=by
 have e:j=0∨j=1∨j=2∨j=3:=by omega
 rcases e with rfl|rfl|rfl|rfl <;>rfl
theorem text_eq (ns:List Int)(hn:ns.length≤63)(at':Nat){m:Nat}(m2:2≤m)(m4:m≤4)(long:Nat)(hat:at'+long+1<1000):xR [scD ns,.int at',.int m,.int long]=.ok (.str (zcu ns at' m long)):=by
 have hr:=yO ns at' (m:=(long:Int)+1) (by omega)
 obtain⟨z,hz⟩:=Int.eq_ofNat_of_zero_le hr.1
 rw[hz] at hr
 have e1:fA (ari 3 zH) (zf (fNm 0) (zf (fNm 1) (zf (f2 uy (fNm 3) (fC (.int 1))) zF))) [.fz (scD ns),.fz (.int at'),.fz (.int m),.fz (.int long),.no]=.ok (.int (z:Int)):=by
  rw[← hz];exact qY ns hn at' (long+1) (by omega) (by omega) (by omega)
 have e2:wX wD (f2 ixD (fC (.str [97,98,99,100])) (fA (ari 3 zH) (zf (fNm 1) (zf (f2 uy (f2 uy (fNm 3) (fC (.int 1))) (fNm 0)) (zf (fNm 2) zF))))) [.no,.fz (scD ns),.fz (.int m),.fz (.int at')] ((List.range z).map fun(k:Nat)=>.int (k:Int))=.ok ((List.range z).map fun(i:Nat)=>.str [abcd.getD (vM ns ((at':Int)+1+(i:Int)) m).toNat 0]):=xg (enc:=fun(k:Nat)=>D.int (k:Int)) _ fun i hi=>by
  have hi':i<z:=by simpa using hi
  have hr2:=yO ns ((at':Int)+1+(i:Int)) (m:=m) (by omega)
  have e3:fA (ari 3 zH) (zf (fNm 1) (zf (f2 uy (f2 uy (fNm 3) (fC (.int 1))) (fNm 0)) (zf (fNm 2) zF))) [.fz (.int (i:Int)),.fz (scD ns),.fz (.int m),.fz (.int at')]=.ok (.int (vM ns ((at':Int)+1+(i:Int)) m)):=qY ns hn _ m (by omega) (by omega) (by omega)
  obtain⟨j,hj⟩:=Int.eq_ofNat_of_zero_le hr2.1
  rw[hj] at e3 hr2 ⊢
  rw[Int.toNat_natCast]
  exact wG (a:=.str [97,98,99,100]) (b:=.int (j:Int)) rfl e3 (zdV (by omega))
 refine yj ?_
 show vG [.fz (scD ns),.fz (.int at'),.fz (.int m),.fz (.int long),.no]=_
 unfold vG
 refine(zL (yu e1)).trans (wB ?_)
 have e4:xV (fR zdT (zf (fNm 4) zF)) wD (f2 ixD (fC (.str [97,98,99,100])) (fA (ari 3 zH) (zf (fNm 1) (zf (f2 uy (f2 uy (fNm 3) (fC (.int 1))) (fNm 0)) (zf (fNm 2) zF))))) [0,2,1] [.fz (scD ns),.fz (.int at'),.fz (.int m),.fz (.int long),.fz (.int (z:Int))]=.ok (.lst ((List.range z).map fun(i:Nat)=>.str [abcd.getD (vM ns ((at':Int)+1+(i:Int)) m).toNat 0])) :=
  qO (zeh (ds:=[.int (z:Int)]) rfl (qP (by omega))) (by rw[List.length_map,List.length_range];omega) e2
 refine fM_ok (a:=.str []) rfl rfl e4 ?_
 have et:zcu ns at' m long=(List.range z).map fun(i:Nat)=>abcd.getD (vM ns ((at':Int)+1+(i:Int)) m).toNat 0:=by unfold zcu;rw[hz,Int.toNat_natCast]
 have ef:((((List.range z).map fun(i:Nat)=>D.str [abcd.getD (vM ns ((at':Int)+1+(i:Int)) m).toNat 0])).map unS).flatten=zcu ns at' m long:=by
  rw[et,List.map_map]
  generalize (List.range z)=r
  induction r with
  | nil=>rfl
  | cons a r ih=>rw[List.map_cons,List.flatten_cons,ih];rfl
 dsimp only [vJ]
 rw[ef,if_pos]
 refine⟨by rw[List.all_map];exact List.all_eq_true.mpr fun _ _=>rfl,?_⟩
 have:=zba ns at' m (long:=long)
 omega
def bkF (ns:List Int)(at':Nat)(m:Nat):Nat→List (List Nat)
 | 0=>kids m []
 | t+1=>part m (bkF ns at' m t) (vM ns ((at':Int)+(t:Int)) ((bkF ns at' m t).length:Int)).toNat
theorem bkF_gr (ns:List Int)(at':Nat){m:Nat}(m2:2≤m)(m4:m≤4):∀t:Nat,My.Gr m t (bkF ns at' m t)
 | 0=>.z
 | t+1=>by
  have g:=bkF_gr ns at' m2 m4 t
  have hl:=g.len m2 m4
  have hd:=yO ns ((at':Int)+(t:Int)) (m:=((bkF ns at' m t).length:Int)) (by rw[hl];omega)
  exact .s g (by omega)
theorem kids_eq (m:Nat)(m4:m≤4)(p:List Nat):kids m p=(List.range m).map fun i=>p++[abcd.getD i 0]:=by
 unfold kids
 have:∀m≤4,abcd.take m=(List.range m).map fun i=>abcd.getD i 0:=by decide
 rw[this m m4,List.map_map];rfl
theorem sortD_lst {ls:List (List Nat)}(h:ls.length<64):sortD [.lst (sT ls)]=some (sT (sortF ls)):=by
 dsimp only [sortD]
 unfold sortL
 rw[if_pos ⟨jf ls,by rw[yC];exact h⟩,jy];rfl
theorem sT_erase (ls:List (List Nat))(k:Nat):(sT ls).eraseIdx k=sT (ls.eraseIdx k):=by
 exact zc1 D.str ls k
theorem book_eq (ns:List Int)(hn:ns.length≤63)(at':Nat){m:Nat}(m2:2≤m)(m4:m≤4)(t:Nat)(ht:t≤8)(hat:at'≤900):vW [scD ns,.int at',.int m,.int t]=.ok (.tup (sT (bkF ns at' m t))):=by
 have e0:fCp (fR zdT (zf (fNm 2) zF)) wD (f2 ixD (fC (.str [97,98,99,100])) (fNm 0)) [] [.fz (scD ns),.fz (.int at'),.fz (.int m),.fz (.int t),.no,.no,.no]=.ok (sT (kids m [])):=by
  refine fCp_ok (zeh (ds:=[.int (m:Int)]) rfl (qP (by omega))) (by rw[List.length_map,List.length_range];omega) ?_
  rw[kids_eq m m4]
  have:=xg (fe:=f2 ixD (fC (.str [97,98,99,100])) (fNm 0)) (ρ0:=[.no]) (l:=List.range m) (enc:=fun(k:Nat)=>D.int (k:Int)) (fun i=>.str ([]++[abcd.getD i 0])) fun i hi=>wG (a:=.str [97,98,99,100]) (b:=.int (i:Int)) rfl rfl (zdV (by have:=List.mem_range.mp hi;omega))
  unfold sT
  rw[List.map_map]
  exact this
 have loop:=qR (i:=5) (g:=yD (zcX 4 6 (fFl 4 (fA (ari 3 zH) (zf (fNm 0) (zf (f2 uy (fNm 1) (fNm 5)) (zf (fO qp (zf (fNm 4) zF)) zF)))))) (zbG 4 (vh 4 (fL sortD (zf (fLs (fL2 catD (fNm 4) (xV (fR zdT (zf (fNm 2) zF)) wD (f2 jD (fNm 1) (f2 ixD (fC (.str [97,98,99,100])) (fNm 0))) [6]))) zF))))) (l:=List.range t) (enc:=fun(k:Nat)=>D.int (k:Int)) (ρ:=[.fz (scD ns),.fz (.int at'),.fz (.int m),.fz (.int t),.ow (sT (kids m [])),.no,.no])
  (fun k ρ=>∃s s',ρ=[.fz (scD ns),.fz (.int at'),.fz (.int m),.fz (.int t),.ow (sT (bkF ns at' m k)),s,s']) ⟨.no,.no,rfl⟩ (fun k c ρ hc ⟨s,s',e⟩=>by
   subst e
   have hk:k<t:=by have:=(List.getElem?_eq_some_iff.mp hc).1;simpa using this
   have ec:c=k:=by rw[List.getElem?_range hk] at hc;exact(Option.some.inj hc).symm
   subst ec
   have g:=bkF_gr ns at' m2 m4 c
   have hl:=g.len m2 m4
   have hsh:=g.short m2 m4
   have hll:(bkF ns at' m c).length≤28:=by
    rw[hl]
    have:c*(m - 1)≤8*3:=Nat.mul_le_mul (by omega) (by omega)
    omega
   have hpos:0<(bkF ns at' m c).length:=by rw[hl];omega
   have hd:=yO ns ((at':Int)+(c:Int)) (m:=((bkF ns at' m c).length:Int)) (by omega)
   obtain⟨j,hj⟩:=Int.eq_ofNat_of_zero_le hd.1
   rw[hj] at hd
   have hjl:j<(bkF ns at' m c).length:=by omega
   have eB:bkF ns at' m (c+1)=part m (bkF ns at' m c) j:=by
    show part m (bkF ns at' m c) (vM ns ((at':Int)+(c:Int)) ((bkF ns at' m c).length:Int)).toNat=_
    rw[hj];rfl
   rw[eB]
   generalize hB:bkF ns at' m c=B at *
   have ed:fFl 4 (fA (ari 3 zH) (zf (fNm 0) (zf (f2 uy (fNm 1) (fNm 5)) (zf (fO qp (zf (fNm 4) zF)) zF)))) [.fz (scD ns),.fz (.int at'),.fz (.int m),.fz (.int t),.ow (sT B),.fz (.int (c:Int)),s']=.ok (.int (j:Int)):=by
    refine fFl_ok rfl ?_ rfl
    show zH [scD ns,.int ((at':Int)+(c:Int)),.int ((sT B).length:Int)]=_
    rw[yC,← hj]
    exact qY ns hn _ _ (by omega) (by omega) (by omega)
   have ep:(sT B)[j]? = some (.str B[j]):=by unfold sT;rw[List.getElem?_map,List.getElem?_eq_getElem hjl];rfl
   have eg:B.getD j []=B[j]:=by rw[List.getD_eq_getElem?_getD,List.getElem?_eq_getElem hjl];rfl
   have hp8:=hsh B[j] (List.getElem_mem hjl)
   refine⟨_,(zL (sPop_ok rfl ed (by omega) ep)).trans ?_,.fz (.int (c:Int)),.fz (.str B[j]),rfl⟩
   rw[sT_erase]
   refine(sIce_ok (ds:=sT (B.eraseIdx j)) rfl).trans ?_
   refine(sSetO_ok (d:=sT (part m B j)) ?_).trans rfl
   have ek:xV (fR zdT (zf (fNm 2) zF)) wD (f2 jD (fNm 1) (f2 ixD (fC (.str [97,98,99,100])) (fNm 0))) [6] [.fz (scD ns),.fz (.int at'),.fz (.int m),.fz (.int t),.fz (.lst (sT (B.eraseIdx j))),.fz (.int (c:Int)),.fz (.str B[j])]=.ok (.lst (sT (kids m B[j]))):=by
    refine qO (zeh (ds:=[.int (m:Int)]) rfl (qP (by omega))) (by rw[List.length_map,List.length_range];omega) ?_
    rw[kids_eq m m4]
    have:=xg (fe:=f2 jD (fNm 1) (f2 ixD (fC (.str [97,98,99,100])) (fNm 0))) (ρ0:=[.no,.fz (.str B[j])]) (l:=List.range m) (enc:=fun(k:Nat)=>D.int (k:Int)) (fun i=>.str (B[j]++[abcd.getD i 0])) fun i hi=>wG (a:=.str B[j]) (b:=.str [abcd.getD i 0]) rfl (wG (a:=.str [97,98,99,100]) (b:=.int (i:Int)) rfl rfl (zdV (by have:=List.mem_range.mp hi;omega))) (uL (by show B[j].length+1≤_;omega))
    unfold sT
    rw[List.map_map]
    exact this
   have el:(B.eraseIdx j++kids m B[j]).length<64:=by
    rw[List.length_append,zcH m m4,List.length_eraseIdx,if_pos hjl];omega
   have ecat:fL2 catD (fNm 4) (xV (fR zdT (zf (fNm 2) zF)) wD (f2 jD (fNm 1) (f2 ixD (fC (.str [97,98,99,100])) (fNm 0))) [6]) [.fz (scD ns),.fz (.int at'),.fz (.int m),.fz (.int t),.fz (.lst (sT (B.eraseIdx j))),.fz (.int (c:Int)),.fz (.str B[j])]=.ok (sT (B.eraseIdx j++kids m B[j])):=by
    unfold fL2
    rw[ek]
    show lf' (catD (.lst (sT (B.eraseIdx j))) (.lst (sT (kids m B[j]))))=_
    dsimp only [catD]
    rw[if_pos (by rw[yC,yC,← List.length_append];omega),zb7];rfl
   refine fL_ok (yt (fLs_ok ecat) rfl) ?_
   rw[sortD_lst el]
   unfold part
   rw[eg])
 obtain⟨ρ',e,s,s',rfl⟩:=loop
 rw[List.length_range] at e
 refine yj ?_
 show vD [.fz (scD ns),.fz (.int at'),.fz (.int m),.fz (.int t),.no,.no,.no]=_
 unfold vD
 refine(zL (sSetO_ok e0)).trans ((zL (j7 ((jz (zeh (ds:=[.int (t:Int)]) rfl (qP (by omega)))).trans e))).trans ?_)
 rfl
end Pg
set_option maxHeartbeats 4000000
namespace Pg
open PySem L2 PyProof.Rows
end Pg
set_option maxHeartbeats 1000000
namespace Pg
open PySem L2 My
theorem fA1 {fn:List D→Rs D}{f:Rho→Rs D}{ρ:Rho}{a:D}(e1:f ρ=.ok a):fA (ari 1 fn) (zf f zF) ρ=fn [a]:=by
 unfold fA;rw[yt e1 rfl];rfl
theorem fA2 {fn:List D→Rs D}{f g:Rho→Rs D}{ρ:Rho}{a b:D}(e1:f ρ=.ok a)(e2:g ρ=.ok b):fA (ari 2 fn) (zf f (zf g zF)) ρ=fn [a,b]:=by
 unfold fA;rw[yt e1 (yt e2 rfl)];rfl
theorem fA3 {fn:List D→Rs D}{f g h:Rho→Rs D}{ρ:Rho}{a b c:D}(e1:f ρ=.ok a)(e2:g ρ=.ok b)(e3:h ρ=.ok c):fA (ari 3 fn) (zf f (zf g (zf h zF))) ρ=fn [a,b,c]:=by
 unfold fA;rw[yt e1 (yt e2 (yt e3 rfl))];rfl
theorem fA4 {fn:List D→Rs D}{f g h i:Rho→Rs D}{ρ:Rho}{a b c d:D}(e1:f ρ=.ok a)(e2:g ρ=.ok b)(e3:h ρ=.ok c)(e4:i ρ=.ok d):fA (ari 4 fn) (zf f (zf g (zf h (zf i zF)))) ρ=fn [a,b,c,d]:=by
 unfold fA;rw[yt e1 (yt e2 (yt e3 (yt e4 rfl)))];rfl
theorem ifF {ft:Rho→Rs Bool}{g:Rho→Out}{ρ:Rho}(e:ft ρ=.ok false):sIf ft g sNx ρ=.nx ρ:=sIf_f e
theorem zes {f:Rho→Rs D}{ρ:Rho}{b:Bool}(e:f ρ=.ok (.bl b)):bT f ρ=.ok b:=by unfold bT;rw[e];rfl
theorem bNot_ok {f:Rho→Rs Bool}{ρ:Rho}{b:Bool}(e:f ρ=.ok b):zbA f ρ=.ok (!b):=by unfold zbA;rw[e];rfl
theorem bOr_ff {f g:Rho→Rs Bool}{ρ:Rho}(e:f ρ=.ok false)(e2:g ρ=.ok false):bOr f g ρ=.ok false:=by unfold bOr;rw[e];exact e2
theorem loopSeq {i:Nat}{fi:Rho→Rs (List D)}{body rest:Rho→Out}{ρ:Rho}{ds:List D}{o:Out}(I:Rho→Prop)(e:fi ρ=.ok ds)(h:∃ρ',forD i body ds ρ=.nx ρ'∧I ρ')(k:∀ρ',I ρ'→rest ρ'=o):yD (jT (kO i fi body)) rest ρ=o:=by
 obtain⟨ρ',e1,i1⟩:=h
 exact(zL (j7 ((jz e).trans e1))).trans (k ρ' i1)
theorem fSl_ok {fa:Rho→Rs D}{fl fh:Rho→Rs (Option Int)}{ρ:Rho}{a d:D}{l h:Option Int}(e1:fa ρ=.ok a)(e2:fl ρ=.ok l)(e3:fh ρ=.ok h)(e4:slD a l h=some d):fSl fa fl fh ρ=.ok d:=by
 unfold fSl;rw[e1];show(fl ρ).bind _=_;rw[e2];show(fh ρ).bind _=_;rw[e3];show lf (slD a l h)=_;rw[e4];rfl
theorem sDrop_ok {f:Rho→Rs D}{ρ:Rho}{d:D}(e:f ρ=.ok d):uc f ρ=.nx ρ:=by unfold uc;rw[e]
def xP (n:Nat):Nat:=if n≤1 then 0 else if n≤2 then 1 else if n≤4 then 2 else if n≤8 then 3 else if n≤16 then 4 else 5
theorem bits_lt:∀n<33,∀b<6,(2 ^ b<n↔b<xP n):=by decide +kernel
theorem bits5 (n:Nat):xP n≤5:=by unfold xP;(repeat' split) <;>omega
theorem bits_loop {n:Nat}(h:n≤32):∀(j b f:Nat),xP n - b=j→b≤xP n→j<f →
  whD (bT (f2 ltI (fNm 2) (fNm 0))) (yD (xX 1 (f2 uy (fNm 1) (fC (.int 1)))) (xX 2 (f2 mulI (fNm 2) (fC (.int 2))))) f [.fz (.int n),.fz (.int (b:Int)),.fz (.int ((2 ^ b:Nat):Int))]=.nx [.fz (.int n),.fz (.int ((xP n:Nat):Int)),.fz (.int ((2 ^ xP n:Nat):Int))]:=by
 intro j
 induction j with
 | zero =>
  intro b f hj hb hf
  have eb:b=xP n:=by omega
  subst eb
  obtain⟨f,rfl⟩:∃g,f=g+1:=⟨f - 1,by omega⟩
  have hb5:=bits5 n
  have et:bT (f2 ltI (fNm 2) (fNm 0)) [.fz (.int n),.fz (.int ((xP n:Nat):Int)),.fz (.int ((2 ^ xP n:Nat):Int))]=.ok false:=by
   have:¬2 ^ xP n<n:=fun z=>by have:=(bits_lt n (by omega) (xP n) (by omega)).mp z;omega
   refine zes (wG (a:=.int ((2 ^ xP n:Nat):Int)) (b:=.int (n:Int)) rfl rfl ?_)
   show some (D.bl (decide (((2 ^ xP n:Nat):Int)<(n:Int))))=_
   rw[decide_eq_false (by omega)]
  unfold whD
  rw[et]
 | succ j ih =>
  intro b f hj hb hf
  obtain⟨f,rfl⟩:∃g,f=g+1:=⟨f - 1,by omega⟩
  have hb5:=bits5 n
  have hlt:2 ^ b<n:=(bits_lt n (by omega) b (by omega)).mpr (by omega)
  have et:bT (f2 ltI (fNm 2) (fNm 0)) [.fz (.int n),.fz (.int (b:Int)),.fz (.int ((2 ^ b:Nat):Int))]=.ok true:=by
   refine zes (wG (a:=.int ((2 ^ b:Nat):Int)) (b:=.int (n:Int)) rfl rfl ?_)
   show some (D.bl (decide (((2 ^ b:Nat):Int)<(n:Int))))=_
   rw[decide_eq_true (by omega)]
  have hp:2 ^ (b+1)=2 ^ b*2:=Nat.pow_succ ..
  have es:(yD (xX 1 (f2 uy (fNm 1) (fC (.int 1)))) (xX 2 (f2 mulI (fNm 2) (fC (.int 2))))) [.fz (.int n),.fz (.int (b:Int)),.fz (.int ((2 ^ b:Nat):Int))]=.nx [.fz (.int n),.fz (.int ((b+1:Nat):Int)),.fz (.int ((2 ^ (b+1):Nat):Int))]:=by
   refine(zL (yu (qK rfl rfl))).trans ?_
   refine(yu (jq (i:=((2 ^ b:Nat):Int)) (j:=2) rfl rfl (uO (by omega)) (uO (by omega)))).trans ?_
   have:((2 ^ b:Nat):Int)*2=((2 ^ (b+1):Nat):Int):=by omega
   rw[this];rfl
  unfold whD
  rw[et]
  show(match (yD (xX 1 (f2 uy (fNm 1) (fC (.int 1)))) (xX 2 (f2 mulI (fNm 2) (fC (.int 2))))) [.fz (.int n),.fz (.int (b:Int)),.fz (.int ((2 ^ b:Nat):Int))] with | .nx ρ'=>_ | .ct ρ'=>_ | .bk ρ'=>_|o=>o)=_
  rw[es]
  exact ih (b+1) f (by omega) (by omega) (by omega)
theorem za7 {n:Nat}(h:n≤32):uV [.int n]=.ok (.int ((xP n:Nat):Int)):=by
 have hb5:=bits5 n
 have:=bits_loop h (xP n) 0 64 rfl (Nat.zero_le _) (by omega)
 refine yj ?_
 refine(zL (yu (d:=.int 0) rfl)).trans ((zL (yu (d:=.int 1) rfl)).trans ((zL (j7 this)).trans rfl))
def wlow (i:Nat):Nat→List Nat
 | 0=>[]
 | k+1=>(48+i / 2 ^ k % 2)::wlow i k
theorem zcw (i:Nat):∀b,(wlow i b).length=b
 | 0=>rfl
 | b+1=>by show(wlow i b).length+1=_;rw[zcw i b]
theorem zet {i b:Nat}(hi:i≤1000)(hb:b≤1000):uY [.int i,.int b]=.ok (.str (wlow i b)):=by
 refine yj ?_
 refine(zL (ρ':=[.fz (.int i),.fz (.int b),.fz (.str []),.no]) (yu (d:=.str []) rfl)).trans ?_
 refine loopSeq (fun ρ=>∃s,ρ=[.fz (.int ((i / 2 ^ b:Nat):Int)),.fz (.int b),.fz (.str (wlow i b)),s]) (zeh (ds:=[.int (b:Int)]) rfl (qP (by omega))) ?_ (fun ρ ⟨s,e⟩=>by subst e;rfl)
 have:=qR (i:=3) (g:=yD (xX 2 (f2 jD (fO strD (zf (f2 modI (fNm 0) (fC (.int 2))) zF)) (fNm 2))) (xX 0 (f2 zcJ (fNm 0) (fC (.int 2))))) (l:=List.range b) (enc:=fun(k:Nat)=>D.int (k:Int)) (ρ:=[.fz (.int i),.fz (.int b),.fz (.str []),.no])
  (fun k ρ=>∃s,ρ=[.fz (.int ((i / 2 ^ k:Nat):Int)),.fz (.int b),.fz (.str (wlow i k)),s]) ⟨.no,by simp[wlow]⟩ (fun k c ρ hc ⟨s,e⟩=>by
   subst e
   have hk:k<b:=by have:=(List.getElem?_eq_some_iff.mp hc).1;simpa using this
   have hle:i / 2 ^ k≤i:=Nat.div_le_self _ _
   have e1:f2 modI (fNm 0) (fC (.int 2)) [.fz (.int ((i / 2 ^ k:Nat):Int)),.fz (.int b),.fz (.str (wlow i k)),.fz (.int (c:Int))]=.ok (.int (((i / 2 ^ k % 2:Nat)):Int)):=by
    refine(qD (i:=((i / 2 ^ k:Nat):Int)) (j:=2) rfl rfl (by decide)).trans ?_
    have:(((i / 2 ^ k:Nat):Int)) % 2=((i / 2 ^ k % 2:Nat):Int):=by omega
    rw[this]
   have hm2:i / 2 ^ k % 2<2:=Nat.mod_lt _ (by decide)
   have e2:strD [.int (((i / 2 ^ k % 2:Nat)):Int)]=some (.str [48+i / 2 ^ k % 2]):=by
    dsimp only [strD]
    rw[if_pos (by omega)];rfl
   have e3:f2 zcJ (fNm 0) (fC (.int 2)) [.fz (.int ((i / 2 ^ k:Nat):Int)),.fz (.int b),.fz (.str (wlow i (k+1))),.fz (.int (c:Int))]=.ok (.int ((i / 2 ^ (k+1):Nat):Int)):=by
    refine(jQ (i:=((i / 2 ^ k:Nat):Int)) (j:=2) rfl rfl (by decide) (uO (by omega))).trans ?_
    have h1:i / 2 ^ (k+1)=i / 2 ^ k / 2:=by rw[Nat.pow_succ,Nat.div_div_eq_div_mul]
    have:(((i / 2 ^ k:Nat):Int)) / 2=((i / 2 ^ k / 2:Nat):Int):=by omega
    rw[h1,this]
   refine⟨_,(zL (ρ':=[.fz (.int ((i / 2 ^ k:Nat):Int)),.fz (.int b),.fz (.str (wlow i (k+1))),.fz (.int (c:Int))]) (yu (d:=.str (wlow i (k+1))) (wG (a:=.str [48+i / 2 ^ k % 2]) (b:=.str (wlow i k)) (fO_ok (yt e1 rfl) e2) rfl (uL (by rw[zcw];show 1+k≤_;omega))))).trans (yu e3),.fz (.int (c:Int)),rfl⟩)
 rw[List.length_range] at this
 exact this
def W (n:Nat):List (List Nat):=(List.range n).map fun i=>wlow i (xP n)
theorem zde (n:Nat):(W n).length=n:=by simp[W]
theorem W_el {n:Nat}{w:List Nat}(h:w∈W n):w.length=xP n:=by
 obtain⟨i,_,rfl⟩:=List.mem_map.mp h
 exact zcw i _
theorem W_lt:∀n<33,(W n).Pairwise (· < ·):=by decide +kernel
theorem zbj {B:List (List Nat)}(h:B.length≤32):uR [.tup (sT B)]=.ok (.lst (sT (W B.length))):=by
 have hb5:=bits5 B.length
 have el:fO qp (zf (fNm 0) zF) [.fz (.tup (sT B)),.no]=.ok (.int (B.length:Int)):=by
  show Rs.ok (D.int ((sT B).length:Int))=_;rw[yC]
 refine yj ((zL (ρ':=[.fz (.tup (sT B)),.fz (.int ((xP B.length:Nat):Int))]) (yu ((fA1 el).trans (za7 h)))).trans (wB ?_))
 have el2:fO qp (zf (fNm 0) zF) [.fz (.tup (sT B)),.fz (.int ((xP B.length:Nat):Int))]=.ok (.int (B.length:Int)):=by
  show Rs.ok (D.int ((sT B).length:Int))=_;rw[yC]
 refine qO (zeh (yt el2 rfl) (qP (by omega))) (by rw[List.length_map,List.length_range];omega) ?_
 have:=xg (fe:=fA (ari 2 uY) (zf (fNm 0) (zf (fNm 1) zF))) (ρ0:=[.no,.fz (.int ((xP B.length:Nat):Int))]) (l:=List.range B.length) (enc:=fun(k:Nat)=>D.int (k:Int)) (fun i=>.str (wlow i (xP B.length))) fun i hi=>(fA2 (a:=.int (i:Int)) (b:=.int ((xP B.length:Nat):Int)) rfl rfl).trans (zet (by have:=List.mem_range.mp hi;omega) (by omega))
 unfold sT W
 rw[List.map_map]
 exact this
end Pg
namespace Pg
open PySem L2 My
theorem idx_lt {L:List (List Nat)}(s:L.Pairwise (· < ·)){j:Nat}(h:j<L.length):L.idxOf L[j]=j:=by
 have h1:=List.idxOf_lt_length_of_mem (List.getElem_mem h)
 have h2:L[L.idxOf L[j]]=L[j]:=List.getElem_idxOf h1
 rcases Nat.lt_trichotomy (L.idxOf L[j]) j with z|z|z
 ·have:=List.pairwise_iff_getElem.mp s _ _ h1 h z
  rw[h2] at this
  exact absurd this (List.lt_irrefl _)
 ·exact z
 ·have:=List.pairwise_iff_getElem.mp s _ _ h h1 z
  rw[h2] at this
  exact absurd this (List.lt_irrefl _)
def wd (B:List (List Nat))(p:List Nat):List Nat:=(W B.length).getD (B.idxOf p) []
theorem wd_mem {B:List (List Nat)}{p:List Nat}(h:p∈B):wd B p∈W B.length:=by
 have h1:=List.idxOf_lt_length_of_mem h
 have h2:B.idxOf p<(W B.length).length:=by rw[zde];exact h1
 unfold wd
 rw[List.getD_eq_getElem?_getD,List.getElem?_eq_getElem h2]
 exact List.getElem_mem h2
theorem wd_idx {B:List (List Nat)}{p:List Nat}(hl:B.length≤32)(h:p∈B):(W B.length).idxOf (wd B p)=B.idxOf p:=by
 have h1:=List.idxOf_lt_length_of_mem h
 have h2:B.idxOf p<(W B.length).length:=by rw[zde];exact h1
 have e:wd B p=(W B.length)[B.idxOf p]:=by
  unfold wd
  rw[List.getD_eq_getElem?_getD,List.getElem?_eq_getElem h2];rfl
 rw[e]
 exact idx_lt (W_lt _ (by omega)) h2
theorem putD_new {ds:List (List Nat×D)}{k:List Nat}{v:D}(h:∀kv∈ds,kv.1≠k):putD ds k v=ds++[(k,v)]:=by
 unfold putD
 rw[if_neg]
 intro z
 obtain⟨kv,hm,e⟩:=List.any_eq_true.mp z
 exact h kv hm (of_decide_eq_true e)
theorem zipL_eq {ks:List (List Nat)}{ds:List D}(s:ks.Pairwise (· < ·))(hl:ks.length=ds.length):zipL ks ds=ks.zip ds:=by
 have key:∀n,n≤ks.length→(List.range n).foldl (fun m j=>putD m (ks.getD j []) (ds.getD j .non)) []=(ks.zip ds).take n:=by
  intro n
  induction n with
  | zero=>intro _;rfl
  | succ n ih =>
   intro hn
   have h1:n<ks.length:=by omega
   have h2:n<ds.length:=by omega
   have h3:n<(ks.zip ds).length:=by rw[List.length_zip];omega
   rw[List.range_succ,List.foldl_append,ih (by omega)]
   show putD ((ks.zip ds).take n) (ks.getD n []) (ds.getD n .non)=_
   have e1:ks.getD n []=ks[n]:=by rw[List.getD_eq_getElem?_getD,List.getElem?_eq_getElem h1];rfl
   have e2:ds.getD n .non=ds[n]:=by rw[List.getD_eq_getElem?_getD,List.getElem?_eq_getElem h2];rfl
   rw[e1,e2,putD_new,List.take_add_one,List.getElem?_eq_getElem h3,List.getElem_zip];rfl
   intro kv hkv z
   obtain⟨i,hi,e⟩:=List.mem_iff_getElem.mp hkv
   rw[List.length_take] at hi
   rw[List.getElem_take,List.getElem_zip] at e
   subst e
   have:=List.pairwise_iff_getElem.mp s i n (by omega) h1 (by omega)
   dsimp only at z
   rw[z] at this
   exact List.lt_irrefl _ this
 unfold zipL
 rw[← hl,Nat.min_self,key _ (Nat.le_refl _),List.take_of_length_le (by rw[List.length_zip];omega)]
theorem zcK:∀(ks:List (List Nat)) (ds:List D) {k:List Nat},k∈ks→ks.length=ds.length→zca (ks.zip ds) k=ds[ks.idxOf k]?
 | [],_,_,h,_=>by simp at h
 | _::_,[],_,_,h=>by simp at h
 | a :: ks,d::ds,k,h,hl=>by
  by_cases e:a=k
  ·subst e
   simp[zca]
  ·have hk:k∈ks:=by
    rcases List.mem_cons.mp h with z|z
    ·exact absurd z.symm e
    ·exact z
   have ih:=zcK ks ds hk (by simpa using hl)
   have e2:(a::ks).idxOf k=ks.idxOf k+1:=by rw[List.idxOf_cons,beq_eq_false_iff_ne.mpr e];rfl
   rw[e2]
   show _=ds[ks.idxOf k]?
   rw[← ih]
   simp[zca,e]
theorem zip_words {B:List (List Nat)}(s:B.Pairwise (· < ·))(hl:B.length≤32):zc4 (.tup (sT B)) (.lst (sT (W B.length)))=some (.dct (B.zip (sT (W B.length)))):=by
 have:zc4 (.tup (sT B)) (.lst (sT (W B.length)))=if (sT B).all isS=true∧(sT B).length≤1000 then some (.dct (zipL ((sT B).map unS) (sT (W B.length)))) else none:=rfl
 rw[this,if_pos ⟨jf B,by rw[yC];omega⟩,jy,zipL_eq s (by rw[yC,zde])]
theorem zip_back {B:List (List Nat)}(hl:B.length≤32):zc4 (.lst (sT (W B.length))) (.tup (sT B))=some (.dct ((W B.length).zip (sT B))):=by
 have:zc4 (.lst (sT (W B.length))) (.tup (sT B))=if (sT (W B.length)).all isS=true∧(sT (W B.length)).length≤1000 then some (.dct (zipL ((sT (W B.length)).map unS) (sT B))) else none:=rfl
 rw[this,if_pos ⟨jf _,by rw[yC,zde];omega⟩,jy,zipL_eq (W_lt _ (by omega)) (by rw[yC,zde])]
theorem get_word {B:List (List Nat)}{p:List Nat}(h:p∈B):getD (.dct (B.zip (sT (W B.length)))) (.str p)=some (.str (wd B p)):=by
 have h1:=List.idxOf_lt_length_of_mem h
 have h2:B.idxOf p<(W B.length).length:=by rw[zde];exact h1
 show zca _ p=_
 rw[zcK _ _ h (by rw[yC,zde])]
 unfold sT wd
 rw[List.getElem?_map,List.getD_eq_getElem?_getD,List.getElem?_eq_getElem h2];rfl
theorem get_back {B:List (List Nat)}(hl:B.length≤32){p:List Nat}(h:p∈B):zca ((W B.length).zip (sT B)) (wd B p)=some (.str p):=by
 have h1:=List.idxOf_lt_length_of_mem h
 rw[zcK _ _ (wd_mem h) (by rw[yC,zde]),wd_idx hl h]
 unfold sT
 rw[List.getElem?_map,List.getElem?_eq_getElem h1,List.getElem_idxOf h1];rfl
theorem flat_len {B:List (List Nat)}{cs:List (List Nat)}(h:∀p∈cs,p∈B):(cs.map (wd B)).flatten.length=xP B.length*cs.length:=by
 induction cs with
 | nil=>rfl
 | cons p cs ih =>
  rw[List.map_cons,List.flatten_cons,List.length_append,ih fun q hq=>h q (.tail _ hq),W_el (wd_mem (h p (.head _))),List.length_cons,Nat.mul_succ]
  omega
theorem zdD {B:List (List Nat)}(h32:B.length≤32)(s:B.Pairwise (· < ·)){l:List Nat}(hl:l.length≤1000):uG [.tup (sT B),.str l]=.ok (.tup [.str ((yd B l).1.map (wd B)).flatten,.str (yd B l).2]):=by
 obtain⟨_,hin,_⟩:=jN B l
 have hlen:=(uZ B l).1
 have hb5:=bits5 B.length
 have ec:=zbb (ps:=B) hl
 generalize yd B l=cf at *
 obtain⟨cs,left⟩:=cf
 dsimp only at hin hlen ec ⊢
 refine yj ((zL (ρ':=[.fz (.tup (sT B)),.fz (.str l),.fz (.tup [.lst (sT cs),.str left]),.no]) (yu ((fA2 (a:=.tup (sT B)) (b:=.str l) rfl rfl).trans ec))).trans ?_)
 refine(zL (ρ':=[.fz (.tup (sT B)),.fz (.str l),.fz (.tup [.lst (sT cs),.str left]),.fz (.dct (B.zip (sT (W B.length))))]) (yu (wG (a:=.tup (sT B)) (b:=.lst (sT (W B.length))) rfl ((fA1 (a:=.tup (sT B)) rfl).trans (zbj h32)) (zip_words s h32)))).trans (wB ?_)
 have e1:=xg (fe:=f2 getD (fNm 1) (fNm 0)) (ρ0:=[.no,.fz (.dct (B.zip (sT (W B.length))))]) (l:=cs) (enc:=D.str) (fun p=>.str (wd B p)) fun p hpc=>wG (a:=.dct (B.zip (sT (W B.length)))) (b:=.str p) rfl rfl (get_word (hin p hpc))
 have hfl:=flat_len hin
 have hcl:xP B.length*cs.length≤5*1000:=Nat.mul_le_mul hb5 (by omega)
 refine fO_ok (ds:=[.str (cs.map (wd B)).flatten,.str left]) (yt (fM_ok (a:=.str []) (b:=.lst (sT (cs.map (wd B)))) rfl rfl (qO (ds:=cs.map .str) rfl (by rw[List.length_map];omega) ?_) ?_) rfl) rfl
 ·have:sT (cs.map (wd B))=cs.map fun p=>.str (wd B p):=by unfold sT;rw[List.map_map];rfl
  rw[this];exact e1
 ·dsimp only [vJ]
  rw[jy,if_pos ⟨jf _,by omega⟩]
theorem led_eq {m:Nat}{B:List (List Nat)}(hp:Pcs m B)(hb:isBook m B=true)(s:B.Pairwise (· < ·)){l:List Nat}(hx:LetOk m l)(hl:l.length≤1000):zb3 [.int m,.tup (sT B),.str l]=.ok (.tup [.str ((yd B l).1.map (wd B)).flatten,.str (yd B l).2]):=by
 refine yj ((zL (ρ':=[.fz (.int m),.fz (.tup (sT B)),.fz (.str l)]) ?_).trans ((zL (ρ':=[.fz (.int m),.fz (.tup (sT B)),.fz (.str l)]) ?_).trans (wB ?_)))
 ·show(match zT [.int m,.tup (sT B)] with | .ok _=>Out.nx [.fz (.int m),.fz (.tup (sT B)),.fz (.str l)] | .ex n=>.ex n | .no=>.no)=_
  rw[wk hp hb]
 ·show(match zV [.int m,.str l] with | .ok _=>Out.nx [.fz (.int m),.fz (.tup (sT B)),.fz (.str l)] | .ex n=>.ex n | .no=>.no)=_
  rw[vm hp.2.1 hx (by omega)]
 ·exact zdD hp.2.2.2.1 s hl
theorem cut_at (ws:List (List Nat))(b:Nat)(h:∀w∈ws,w.length=b):∀i (hi:i<ws.length),zbF ws.flatten (some ((i*b:Nat):Int)) (some ((i*b+b:Nat):Int))=ws[i]:=by
 have key:∀(ws:List (List Nat)) (i:Nat),(∀w∈ws,w.length=b)→(hi:i<ws.length)→(ws.flatten.drop (i*b)).take b=ws[i]:=by
  intro ws
  induction ws with
  | nil=>intro i _ hi;simp at hi
  | cons w ws ih =>
   intro i h hi
   have hw:=h w (.head _)
   cases i with
   | zero =>
    rw[Nat.zero_mul,List.drop_zero,List.flatten_cons]
    show(w++ws.flatten).take b=w
    rw[List.take_append_of_le_length (by omega),List.take_of_length_le (by omega)]
   | succ i =>
    rw[List.flatten_cons,Nat.succ_mul,List.drop_append,List.drop_of_length_le (by omega),List.nil_append]
    have:i*b+b - w.length=i*b:=by omega
    rw[this]
    exact ih i (fun w hw=>h w (.tail _ hw)) (by simpa using hi)
 intro i hi
 have hlen:ws.flatten.length=ws.length*b:=by
  clear key hi
  induction ws with
  | nil=>simp
  | cons w ws ih=>rw[List.flatten_cons,List.length_append,ih fun w hw=>h w (.tail _ hw),h w (.head _),List.length_cons,Nat.succ_mul];omega
 have h1:(i+1)*b≤ws.length*b:=Nat.mul_le_mul_right b hi
 rw[Nat.succ_mul] at h1
 unfold zbF
 have h0:i*b≤ws.length*b:=by omega
 rw[HT.sIx_nat,HT.sIx_nat,hlen,Nat.min_eq_left h0,Nat.min_eq_left h1]
 have:i*b+b - i*b=b:=by omega
 rw[this]
 exact key ws i h hi
theorem zbL {B:List (List Nat)}(h2:2≤B.length)(h32:B.length≤32){ws:List (List Nat)}(h:∀w∈ws,w.length=xP B.length)(hl:ws.length≤1000):ul [.tup (sT B),.str ws.flatten]=.ok (.lst (sT ws)):=by
 have hb5:=bits5 B.length
 have hb1:1≤xP B.length:=by unfold xP;(repeat' split) <;>omega
 have hlen:ws.flatten.length=ws.length*xP B.length:=by
  clear hl
  induction ws with
  | nil=>simp
  | cons w ws ih=>rw[List.flatten_cons,List.length_append,ih fun w hw=>h w (.tail _ hw),h w (.head _),List.length_cons,Nat.succ_mul];omega
 have hmul:ws.length*xP B.length≤1000*5:=Nat.mul_le_mul hl hb5
 have hcut:=cut_at ws (xP B.length) h
 have hbits:=za7 h32
 generalize hbb:xP B.length=b at *
 have el:fO qp (zf (fNm 0) zF) [.fz (.tup (sT B)),.fz (.str ws.flatten),.no]=.ok (.int (B.length:Int)):=by
  show Rs.ok (D.int ((sT B).length:Int))=_;rw[yC]
 refine yj ((zL (ρ':=[.fz (.tup (sT B)),.fz (.str ws.flatten),.fz (.int (b:Int))]) (yu ((fA1 el).trans hbits))).trans ((zL (ifF (bOr_ff (bNot_ok (b:=true) (zes rfl)) (zes ?_)))).trans (wB ?_)))
 ·refine wG (a:=.int 0) (b:=.int 0) ((qD (i:=(ws.flatten.length:Int)) (j:=(b:Int)) rfl rfl (by omega)).trans ?_) rfl ?_
  ·rw[hlen]
   have:(((ws.length*b:Nat):Int)) % (b:Int)=0:=by rw[Int.natCast_mul];exact Int.mul_emod_left _ _
   rw[this]
  ·rfl
 ·have er:rng3 [.int 0,.int (ws.flatten.length:Int),.int (b:Int)]=some ((List.range ws.length).map fun(k:Nat)=>.int (0+(k:Int)*(b:Int))):=by
   dsimp only [rng3]
   rw[if_pos (by omega)]
   have:(((ws.flatten.length:Int)) - 0+(b:Int) - 1) / (b:Int)=(ws.length:Int):=by
    rw[hlen,Int.natCast_mul]
    have e1:(ws.length:Int)*(b:Int) - 0+(b:Int) - 1=((b:Int) - 1)+(ws.length:Int)*(b:Int):=by omega
    rw[e1,Int.add_mul_ediv_right _ _ (by omega),Int.ediv_eq_zero_of_lt (by omega) (by omega)]
    omega
   rw[this];rfl
  refine qO (ds:=(List.range ws.length).map fun(k:Nat)=>.int (0+(k:Int)*(b:Int))) (zeh (ds:=[.int 0,.int (ws.flatten.length:Int),.int (b:Int)]) rfl er) (by rw[List.length_map,List.length_range];omega) ?_
  have:=xg (fe:=fSl (fNm 1) (yR (fNm 0)) (yR (f2 uy (fNm 0) (fNm 2)))) (ρ0:=[.no,.fz (.str ws.flatten),.fz (.int (b:Int))]) (l:=List.range ws.length) (enc:=fun(k:Nat)=>D.int (0+(k:Int)*(b:Int))) (fun i=>.str (ws.getD i [])) fun i hi=>by
   have hi':=List.mem_range.mp hi
   have e1:(0+(i:Int)*(b:Int))=((i*b:Nat):Int):=by rw[Int.natCast_mul];omega
   have e2:(0+(i:Int)*(b:Int))+(b:Int)=((i*b+b:Nat):Int):=by rw[Int.natCast_add,Int.natCast_mul];omega
   refine fSl_ok (a:=.str ws.flatten) (l:=some (0+(i:Int)*(b:Int))) (h:=some ((0+(i:Int)*(b:Int))+(b:Int))) rfl rfl rfl ?_
   show some (D.str (zbF ws.flatten (some (0+(i:Int)*(b:Int))) (some ((0+(i:Int)*(b:Int))+(b:Int)))))=_
   rw[e2,e1,hcut i hi',List.getD_eq_getElem?_getD,List.getElem?_eq_getElem hi'];rfl
  have e3:sT ws=(List.range ws.length).map fun i=>.str (ws.getD i []):=by
   refine List.ext_getElem (by simp[sT]) fun j h1 h2=>?_
   have hj:j<ws.length:=by rw[yC] at h1;exact h1
   simp[sT,hj]
  rw[e3];exact this
theorem text_of_eq {B:List (List Nat)}(h32:B.length≤32){cs:List (List Nat)}(hin:∀p∈cs,p∈B)(h8:∀p∈B,p.length≤9)(hl:cs.length≤1000):wY [.tup (sT B),.lst (sT (cs.map (wd B)))]=.ok (.str cs.flatten):=by
 refine yj ((zL (ρ':=[.fz (.tup (sT B)),.fz (.lst (sT (cs.map (wd B)))),.fz (.dct ((W B.length).zip (sT B))),.no]) (yu (wG (a:=.lst (sT (W B.length))) (b:=.tup (sT B)) ((fA1 (a:=.tup (sT B)) rfl).trans (zbj h32)) rfl (zip_back h32)))).trans ?_)
 have em:sT (cs.map (wd B))=cs.map fun p=>.str (wd B p):=by unfold sT;rw[List.map_map];rfl
 refine loopSeq (ds:=cs.map fun p=>.str (wd B p)) (fun ρ=>∃s,ρ=[.fz (.tup (sT B)),.fz (.lst (sT (cs.map (wd B)))),.fz (.dct ((W B.length).zip (sT B))),s]) ?_ (qR (l:=cs) (enc:=fun p=>D.str (wd B p)) (fun _ ρ=>∃s,ρ=[.fz (.tup (sT B)),.fz (.lst (sT (cs.map (wd B)))),.fz (.dct ((W B.length).zip (sT B))),s]) ⟨.no,rfl⟩ ?_) ?_
 ·rw[em];rfl
 ·rintro k p ρ hk ⟨s,rfl⟩
  have hpB:=hin p (List.mem_of_getElem? hk)
  refine⟨_,ifF (zes (wG (a:=.str (wd B p)) (b:=.dct ((W B.length).zip (sT B))) rfl rfl ?_)),.fz (.str (wd B p)),rfl⟩
  show some (D.bl (!(zca ((W B.length).zip (sT B)) (wd B p)).isSome))=_
  rw[get_back h32 hpB];rfl
 ·rintro ρ ⟨s,rfl⟩
  have e1:=xg (fe:=f2 getD (fNm 1) (fNm 0)) (ρ0:=[.no,.fz (.dct ((W B.length).zip (sT B)))]) (l:=cs) (enc:=fun p=>D.str (wd B p)) (fun p=>.str p) fun p hpc=>wG (a:=.dct ((W B.length).zip (sT B))) (b:=.str (wd B p)) rfl rfl (get_back h32 (hin p hpc))
  have hfl:cs.flatten.length≤9*cs.length:=by
   clear e1 hl em
   induction cs with
   | nil=>simp
   | cons p cs ih =>
    have:=ih fun q hq=>hin q (.tail _ hq)
    have:=h8 p (hin p (.head _))
    rw[List.flatten_cons,List.length_append,List.length_cons]
    omega
  refine wB (fM_ok (a:=.str []) (b:=.lst (sT cs)) rfl rfl (qO (ds:=cs.map fun p=>.str (wd B p)) (by rw[em];rfl) (by rw[List.length_map];omega) e1) ?_)
  dsimp only [vJ]
  rw[jy,if_pos ⟨jf _,by omega⟩]
theorem zdI {m:Nat}{B:List (List Nat)}(hp:Pcs m B)(hb:isBook m B=true)(h2:2≤B.length){cs:List (List Nat)}(hin:∀p∈cs,p∈B)(hl:cs.length≤1000)(k:Nat):qz [.int m,.tup (sT B),.str (cs.map (wd B)).flatten,.int (k:Int)]=.ok (.str (cs.drop k).flatten):=by
 have h32:=hp.2.2.2.1
 refine yj ((zL (sDrop_ok ((fA2 (a:=.int m) (b:=.tup (sT B)) rfl rfl).trans (wk hp hb)))).trans ((zL (ρ':=[.fz (.int m),.fz (.tup (sT B)),.fz (.str (cs.map (wd B)).flatten),.fz (.int (k:Int)),.fz (.lst (sT (cs.map (wd B))))]) (yu ((fA2 (a:=.tup (sT B)) (b:=.str (cs.map (wd B)).flatten) rfl rfl).trans (zbL h2 h32 (fun w hw=>?_) (by rw[List.length_map];exact hl))))).trans (wB ?_)))
 ·obtain⟨p,hpc,rfl⟩:=List.mem_map.mp hw
  exact W_el (wd_mem (hin p hpc))
 ·refine (fA2 (a:=.tup (sT B)) (b:=.lst (sT ((cs.drop k).map (wd B)))) rfl (fSl_ok (a:=.lst (sT (cs.map (wd B)))) (l:=some (k:Int)) (h:=none) rfl ?_ rfl ?_)).trans (text_of_eq h32 (fun p hpc=>hin p (List.mem_of_mem_drop hpc)) (fun p h=>(hp.2.2.2.2 p h).2.2) (by rw[List.length_drop];omega))
  ·have:fO maxD (zf (fNm 3) (zf (fC (.int 0)) zF)) [.fz (.int m),.fz (.tup (sT B)),.fz (.str (cs.map (wd B)).flatten),.fz (.int (k:Int)),.fz (.lst (sT (cs.map (wd B))))]=.ok (.int (k:Int)):=by
    refine fO_ok (ds:=[.int (k:Int),.int 0]) rfl ?_
    show some (D.int (if (0:Int) > (k:Int) then 0 else(k:Int)))=_
    rw[if_neg (by omega)]
   unfold yR
   rw[this];rfl
  ·show some (D.lst (zbF (sT (cs.map (wd B))) (some (k:Int)) none))=_
   rw[zcN]
   unfold sT
   rw[List.map_drop,← List.map_drop]
theorem back_eq {m:Nat}{B:List (List Nat)}(hp:Pcs m B)(hb:isBook m B=true)(h2:2≤B.length){cs:List (List Nat)}(hin:∀p∈cs,p∈B)(hl:cs.length≤1000):zaY [.int m,.tup (sT B),.str (cs.map (wd B)).flatten]=.ok (.str cs.flatten) :=
 yj (wB ((fA4 (a:=.int m) (b:=.tup (sT B)) (c:=.str (cs.map (wd B)).flatten) (d:=.int 0) rfl rfl rfl rfl).trans (zdI hp hb h2 hin hl 0)))
end Pg
namespace Pg
open PySem L2 My
end Pg
namespace Pg
open PySem L2 My
def qF (ws:List Int)(a:Int):Int×Int:=low a (ws.sum ^ 9)
theorem getD_some {B:List (List Nat)}{j:Nat}(hj:j<B.length):B[j]? = some (B.getD j []):=by
 rw[List.getD_eq_getElem?_getD,List.getElem?_eq_getElem hj];rfl
section
variable {ws:List Int}(h:SrcOk ws)
include h
end
end Pg
namespace My
theorem zaK {q p:List Nat}(h:q <+: p)(hn:q≠p):q <+: p.dropLast:=by
 rcases List.eq_nil_or_concat p with rfl|⟨l,c,rfl⟩
 ·exact absurd (List.prefix_nil.mp h) hn
 ·rw[List.concat_eq_append] at h hn ⊢
  rw[List.dropLast_concat]
  rcases List.prefix_concat_iff.mp h with e|e
  ·exact absurd e hn
  ·exact e
theorem drop_ne {p:List Nat}(h:p≠[]):p.dropLast≠p:=fun e=>by
 have:=congrArg List.length e
 have:=List.length_pos_iff.mpr h
 rw[List.length_dropLast] at *
 omega
theorem Inner.pre {B:List (List Nat)}{x y:List Nat}(h:Inner B y)(p:x <+: y):Inner B x:=by
 obtain⟨q,hq,hy,hn⟩:=h
 refine⟨q,hq,p.trans hy,fun e=>hn ?_⟩
 subst e
 exact hy.eq_of_length (Nat.le_antisymm hy.length_le p.length_le)
theorem Book.inner_not {m:Nat}{B:List (List Nat)}(h:Book m B){x y:List Nat}(hx:Inner B x)(hy:y <+: x):y∉B:=fun hyB=>h.free hx y hy (h.ne y hyB) hyB
theorem Book.mem_iff {m:Nat}{B:List (List Nat)}(h:Book m B){p:List Nat}:p∈B↔p≠[]∧LetOk m p∧Inner B p.dropLast∧¬Inner B p:=by
 constructor
 ·intro hp
  exact⟨h.ne p hp,h.let_ p hp,⟨p,hp,List.dropLast_prefix p,drop_ne (h.ne p hp)⟩,fun hi=>h.inner_not hi (List.prefix_refl p) hp⟩
 ·rintro ⟨hn,hl,hi,hni⟩
  obtain⟨q,hq,e|e⟩:=h.cv p hl
  ·by_cases eq:q=p
   ·exact eq▸hq
   ·exact absurd hq (h.inner_not hi (zaK e eq))
  ·by_cases eq:p=q
   ·exact eq▸hq
   ·exact absurd ⟨q,hq,e,eq⟩ hni
theorem Book.ext {m:Nat}{B C:List (List Nat)}(h:Book m B)(k:Book m C)(e:∀x,Inner B x↔Inner C x):B=C:=by
 have p:B.Perm C:=(List.perm_ext_iff_of_nodup h.nd k.nd).mpr fun p=>by rw[h.mem_iff,k.mem_iff,e,e]
 exact List.Perm.eq_of_pairwise (fun _ _ _ _ h k=>List.le_antisymm h k) h.srt k.srt p
structure Clo (m:Nat)(P:List Nat→Prop):Prop where
 nil:P []
 let_:∀x,P x→LetOk m x
 pre:∀x y,x <+: y→P y→P x
 bd:∃N,∀x,P x→x.length<N
theorem Book.clo {m:Nat}{B:List (List Nat)}(h:Book m B):Clo m (Inner B) where
 nil:=h.nilInner
 let_:=fun x hx=>h.innerLet hx
 pre:=fun x y p hy=>hy.pre p
 bd := by
  have:∃N,∀p∈B,p.length≤N:=by
   clear h
   induction B with
   | nil=>exact⟨0,by simp⟩
   | cons q B ih =>
    obtain⟨N,hN⟩:=ih
    refine⟨max N q.length,fun p hp=>?_⟩
    rcases List.mem_cons.mp hp with rfl|hp
    ·exact Nat.le_max_right _ _
    ·exact Nat.le_trans (hN p hp) (Nat.le_max_left _ _)
  obtain⟨N,hN⟩:=this
  refine⟨N+1,fun x hq39=>?_⟩
  obtain⟨p,hp,hx,_⟩:=hq39
  have:=hN p hp
  have:=hx.length_le
  omega
theorem Book.of {m:Nat}(m2:2≤m)(m4:m≤4){P:List Nat→Prop}(c:Clo m P){L:List (List Nat)}(s:L.Pairwise (·≤·))(n:L.Nodup)(hm:∀p,p∈L↔p≠[]∧LetOk m p∧P p.dropLast∧¬P p):Book m L∧∀x,Inner L x↔P x:=by
 have h97:97∈abcd.take m:=vQ m4 (by omega)
 obtain⟨N,hN⟩:=c.bd
 have up:∀(k:Nat) (x:List Nat),P x→N≤x.length+k→∃q∈L,x <+: q∧x≠q:=by
  intro k
  induction k with
  | zero=>intro x hx hk;have:=hN x hx;omega
  | succ k ih =>
   intro x hx hk
   by_cases hy:P (x++[97])
   ·obtain⟨q,hq,h1,h2⟩:=ih (x++[97]) hy (by simp;omega)
    refine⟨q,hq,(List.prefix_append _ _).trans h1,fun e=>?_⟩
    have:=h1.length_le
    rw[← e,List.length_append,List.length_singleton] at this
    omega
   ·refine⟨x++[97],(hm _).mpr ⟨by simp,(c.let_ x hx).app (LetOk.one h97),?_,hy⟩,List.prefix_append _ _,fun e=>zaT x 97 e.symm⟩
    rw[List.dropLast_concat];exact hx
 have down:∀(k:Nat) (x:List Nat),x.length≤k→LetOk m x→¬P x→∃q∈L,q <+: x:=by
  intro k
  induction k with
  | zero =>
   intro x hk _ hx
   have:x=[]:=List.length_eq_zero_iff.mp (by omega)
   subst this
   exact absurd c.nil hx
  | succ k ih =>
   intro x hk hl hx
   have hne:x≠[]:=fun e=>hx (e▸c.nil)
   by_cases hd:P x.dropLast
   ·exact⟨x,(hm x).mpr ⟨hne,hl,hd,hx⟩,List.prefix_refl x⟩
   ·obtain⟨q,hq,e⟩:=ih x.dropLast (by rw[List.length_dropLast];omega) (hl.pre (List.dropLast_prefix x)) hd
    exact⟨q,hq,e.trans (List.dropLast_prefix x)⟩
 have inn:∀x,Inner L x↔P x:=fun x=>by
  constructor
  ·rintro⟨p,hp,h1,h2⟩
   exact c.pre _ _ (zaK h1 h2) ((hm p).mp hp).2.2.1
  ·intro hx
   obtain⟨q,hq,h1,h2⟩:=up N x hx (by omega)
   exact⟨q,hq,h1,h2⟩
 refine⟨⟨m2,m4,fun p hp=>((hm p).mp hp).2.1,fun p hp=>((hm p).mp hp).1,fun p hp q hq h=>?_,fun x hx=>?_,s,n⟩,inn⟩
 ·by_cases e:p=q
  ·exact e
  ·exact absurd (c.pre _ _ (zaK h e) ((hm q).mp hq).2.2.1) ((hm p).mp hp).2.2.2
 ·by_cases hP:P x
  ·obtain⟨q,hq,h1,_⟩:=up N x hP (by omega)
   exact⟨q,hq,.inr h1⟩
  ·obtain⟨q,hq,h1⟩:=down x.length x (Nat.le_refl _) hx hP
   exact⟨q,hq,.inl h1⟩
def Head (m:Nat)(B:List (List Nat))(x:List Nat):Prop:=x≠[]∧∀k∈kids m x,k∈B
def zcc (B:List (List Nat))(x:List Nat):List (List Nat):=sortF (B.filter (fun p=>!x.isPrefixOf p)++[x])
theorem Head.inner {m:Nat}{B:List (List Nat)}(h:Book m B){x:List Nat}(hx:Head m B x):Inner B x:=by
 have h97:97∈abcd.take m:=vQ h.m4 (by have:=h.m2;omega)
 exact⟨x++[97],hx.2 _ (kids_mem.mpr ⟨97,h97,rfl⟩),List.prefix_append _ _,fun e=>zaT x 97 e.symm⟩
theorem Head.top {m:Nat}{B:List (List Nat)}(h:Book m B){x y:List Nat}(hx:Head m B x)(hy:Inner B y)(p:x <+: y):y=x:=by
 obtain⟨r,rfl⟩:=p
 cases r with
 | nil=>simp
 | cons c r =>
  have hc:=h.innerLet hy c (by simp)
  exact absurd (hx.2 _ (kids_mem.mpr ⟨c,vQ h.m4 hc,rfl⟩)) (h.inner_not hy ⟨r,by simp⟩)
theorem Book.join {m:Nat}{B:List (List Nat)}(h:Book m B){x:List Nat}(hx:Head m B x):Book m (zcc B x)∧∀y,Inner (zcc B x) y↔Inner B y∧y≠x:=by
 have hi:=hx.inner h
 have hxB:x∉B:=h.inner_not hi (List.prefix_refl x)
 refine Book.of h.m2 h.m4 (P:=fun y=>Inner B y∧y≠x) ⟨⟨h.nilInner,fun e=>hx.1 e.symm⟩,fun y hy=>h.innerLet hy.1,fun y z p hz=>⟨hz.1.pre p,fun e=>hz.2 (hx.top h hz.1 (e▸p))⟩,?_⟩ (jC _) ?_ fun p=>?_
 ·obtain⟨N,hN⟩:=h.clo.bd
  exact⟨N,fun y hy=>hN y hy.1⟩
 ·refine(xT _).nodup_iff.mpr (List.nodup_append.mpr ⟨h.nd.filter _,by simp,fun a ha b hb e=>?_⟩)
  rw[List.mem_singleton.mp hb] at e
  subst e
  exact hxB (List.mem_filter.mp ha).1
 ·unfold zcc
  rw[sortF_mem,List.mem_append,List.mem_filter,List.mem_singleton]
  have nb:(!x.isPrefixOf p)=true↔¬x <+: p:=by rw[Bool.not_eq_true',← Bool.not_eq_true,List.isPrefixOf_iff_prefix]
  rw[nb]
  constructor
  ·rintro (⟨hp,hnp⟩|rfl)
   ·obtain⟨a,b,c,d⟩:=h.mem_iff.mp hp
    exact⟨a,b,⟨c,fun e=>hnp (e▸List.dropLast_prefix p)⟩,fun e=>d e.1⟩
   ·exact⟨hx.1,h.innerLet hi,⟨hi.pre (List.dropLast_prefix _),drop_ne hx.1⟩,fun e=>e.2 rfl⟩
  ·rintro ⟨a,b,⟨c,c'⟩,d⟩
   by_cases e:p=x
   ·exact .inr e
   ·have hp:p∈B:=h.mem_iff.mpr ⟨a,b,c,fun z=>d ⟨z,e⟩⟩
    exact .inl ⟨hp,fun z=>c' (hx.top h c (zaK z fun z'=>e z'.symm))⟩
theorem Book.partAt {m:Nat}{B:List (List Nat)}(h:Book m B){p:List Nat}(hp:p∈B):Book m (My.part m B (B.idxOf p))∧∀x,Inner (My.part m B (B.idxOf p)) x↔Inner B x∨x=p:=by
 have hj:B.idxOf p<B.length:=List.idxOf_lt_length_iff.mpr hp
 refine⟨h.part hj,fun x=>?_⟩
 rw[zbv h.m2 h.m4 h hj]
 have:B.getD (B.idxOf p) []=p:=by rw[List.getD_eq_getElem?_getD,List.getElem?_eq_getElem hj];exact List.getElem_idxOf hj
 rw[this]
theorem Book.head_mem {m:Nat}{B:List (List Nat)}(h:Book m B){x:List Nat}(hx:Head m B x):x∈zcc B x:=by
 unfold zcc;rw[sortF_mem];simp
theorem Book.join_part {m:Nat}{B:List (List Nat)}(h:Book m B){x:List Nat}(hx:Head m B x):My.part m (zcc B x) ((zcc B x).idxOf x)=B:=by
 obtain⟨hb,hi⟩:=h.join hx
 obtain⟨kb,ki⟩:=hb.partAt (h.head_mem hx)
 refine kb.ext h fun y=>?_
 rw[ki,hi]
 constructor
 ·rintro(⟨a,_⟩|rfl)
  ·exact a
  ·exact hx.inner h
 ·intro a
  by_cases e:y=x
  ·exact .inr e
  ·exact .inl ⟨a,e⟩
theorem kids_inner {m:Nat}(m2:2≤m)(m4:m≤4)(x:List Nat):Inner (kids m []) x↔x=[]:=by
 constructor
 ·rintro⟨p,hp,hx,hn⟩
  obtain⟨c,_,rfl⟩:=kids_mem.mp hp
  rcases List.prefix_concat_iff.mp hx with e|e
  ·exact absurd e hn
  ·exact List.prefix_nil.mp e
 ·rintro rfl
  exact(Book.letters m2 m4).nilInner
theorem longest (L:List (List Nat))(P:List Nat→Prop) [DecidablePred P](h:∃x∈L,P x):∃x∈L,P x∧∀y∈L,P y→y.length≤x.length:=by
 induction L with
 | nil=>obtain⟨x,hx,_⟩:=h;cases hx
 | cons a L ih =>
  by_cases hL:∃x∈L,P x
  ·obtain ⟨x,hx,px,mx⟩:=ih hL
   by_cases ha:P a∧x.length≤a.length
   ·refine⟨a,.head _,ha.1,fun y hy py=>?_⟩
    rcases List.mem_cons.mp hy with rfl|hy
    ·exact Nat.le_refl _
    ·exact Nat.le_trans (mx y hy py) ha.2
   ·refine ⟨x,.tail _ hx,px,fun y hy py=>?_⟩
    rcases List.mem_cons.mp hy with rfl|hy
    ·have:¬x.length≤y.length:=fun z=>ha ⟨py,z⟩
     omega
    ·exact mx y hy py
  ·obtain ⟨x,hx,px⟩:=h
   rcases List.mem_cons.mp hx with rfl|hx
   ·refine⟨x,.head _,px,fun y hy py=>?_⟩
    rcases List.mem_cons.mp hy with rfl|hy
    ·exact Nat.le_refl _
    ·exact absurd ⟨y,hy,py⟩ hL
   ·exact absurd ⟨x,hx,px⟩ hL
theorem Book.hasHead {m:Nat}{B:List (List Nat)}(h:Book m B)(hx:∃x,Inner B x∧x≠[]):∃x,Head m B x:=by
 obtain⟨x0,h0,h1⟩:=hx
 obtain⟨x,hxk,hxn,hmax⟩:=longest (z8 B) (fun x=>x≠[]) ⟨x0,innerKeys_mem.mpr h0,h1⟩
 refine⟨x,hxn,fun k hk=>?_⟩
 obtain⟨c,hc,rfl⟩:=kids_mem.mp hk
 rcases h.step (innerKeys_mem.mp hxk) hc with⟨a,_⟩|⟨_,a⟩
 ·have:=hmax _ (innerKeys_mem.mpr a) (by simp)
  rw[List.length_append,List.length_singleton] at this
  omega
 ·exact a
theorem join_keys {m:Nat}{B:List (List Nat)}(h:Book m B){x:List Nat}(hx:Head m B x):(z8 (zcc B x)).length+1≤(z8 B).length:=by
 obtain⟨hb,hi⟩:=h.join hx
 have:(x::z8 (zcc B x)).length≤(z8 B).length:=by
  refine List.Nodup.length_le_of_subset (List.nodup_cons.mpr ⟨fun z=>((hi x).mp (innerKeys_mem.mp z)).2 rfl,vX _⟩) fun y hy=>?_
  rcases List.mem_cons.mp hy with rfl|hy
  ·exact innerKeys_mem.mpr (hx.inner h)
  ·exact innerKeys_mem.mpr ((hi y).mp (innerKeys_mem.mp hy)).1
 simpa using this
theorem Book.gr {m:Nat}:∀(n:Nat) {B:List (List Nat)},Book m B→(z8 B).length≤n→∃t,Gr m t B:=by
 intro n
 induction n with
 | zero =>
  intro B h hn
  have:[]∈z8 B:=innerKeys_mem.mpr h.nilInner
  rw[List.length_eq_zero_iff.mp (Nat.le_zero.mp hn)] at this
  cases this
 | succ n ih =>
  intro B h hn
  by_cases hx:∃x,Inner B x∧x≠[]
  ·obtain⟨x,hx⟩:=h.hasHead hx
   obtain⟨t,g⟩:=ih (h.join hx).1 (by have:=join_keys h hx;omega)
   refine⟨t+1,?_⟩
   have:=Gr.s g (List.idxOf_lt_length_iff.mpr (h.head_mem hx))
   rwa [h.join_part hx] at this
  ·refine ⟨0,?_⟩
   have e:B=kids m []:=h.ext (Book.letters h.m2 h.m4) fun x=>by
    rw[kids_inner h.m2 h.m4]
    constructor
    ·intro hi
     by_cases e:x=[]
     ·exact e
     ·exact absurd ⟨x,hi,e⟩ hx
    ·rintro rfl;exact h.nilInner
   rw[e];exact Gr.z
theorem Book.grAt {m:Nat}{B:List (List Nat)}(h:Book m B):∃t,Gr m t B∧(z8 B).length=t+1∧B.length=m+t*(m - 1):=by
 obtain⟨t,g⟩:=Book.gr _ h (Nat.le_refl _)
 exact⟨t,g,g.keysEq h.m2 h.m4,g.len h.m2 h.m4⟩
end My
namespace My
end My
namespace Pg
open PySem L2 My
theorem cA2 {fn:List D→Rs D}{f g:Rho→Rs D}{ρ:Rho}{a b:D}{r:Rs D}(e1:f ρ=.ok a)(e2:g ρ=.ok b)(e:fn [a,b]=r):fA (ari 2 fn) (zf f (zf g zF)) ρ=r:=(fA2 e1 e2).trans e
theorem cA3 {fn:List D→Rs D}{f g h:Rho→Rs D}{ρ:Rho}{a b c:D}{r:Rs D}(e1:f ρ=.ok a)(e2:g ρ=.ok b)(e3:h ρ=.ok c)(e:fn [a,b,c]=r):fA (ari 3 fn) (zf f (zf g (zf h zF))) ρ=r:=(fA3 e1 e2 e3).trans e
theorem cA4 {fn:List D→Rs D}{f g h i:Rho→Rs D}{ρ:Rho}{a b c d:D}{r:Rs D}(e1:f ρ=.ok a)(e2:g ρ=.ok b)(e3:h ρ=.ok c)(e4:i ρ=.ok d)(e:fn [a,b,c,d]=r):fA (ari 4 fn) (zf f (zf g (zf h (zf i zF)))) ρ=r:=(fA4 e1 e2 e3 e4).trans e
structure Bb (m:Nat)(B:List (List Nat)):Prop where
 pcs:Pcs m B
 bk:Book m B
theorem Bb.isB {m:Nat}{B:List (List Nat)}(h:Bb m B):isBook m B=true:=h.bk.isBook
theorem Bb.l32 {m:Nat}{B:List (List Nat)}(h:Bb m B):B.length≤32:=h.pcs.2.2.2.1
theorem bb_of {m:Nat}{B:List (List Nat)}(h:Book m B){n:Nat}(hn:(z8 B).length≤n)(h10:n≤10)(h8:∀p∈B,p.length≤9):Bb m B∧B.length≤1+n*3:=by
 obtain⟨t,g,e1,e2⟩:=h.grAt
 have m2:=h.m2
 have m4:=h.m4
 have:t*(m - 1)≤t*3:=Nat.mul_le_mul_left t (by omega)
 have hl:B.length≤1+n*3:=by omega
 refine⟨⟨⟨m2,m4,fun z=>?_,by omega,fun p hp=>⟨h.let_ p hp,h.ne p hp,h8 p hp⟩⟩,h⟩,hl⟩
 rw[z] at e2
 simp at e2
 omega
end Pg
namespace Pg
open PySem L2 My
end Pg
namespace Pg
open PySem L2 My
theorem lstT {x y:List (List Nat)}(h:x=y):eqD true (.lst (sT x)) (.lst (sT y))=some (.bl false):=by rw[zex,decide_eq_true h];rfl
structure Kc (m n:Nat)(B:List (List Nat)):Prop where
 bk:Book m B
 ks:(z8 B).length≤n
 l7:∀p∈B,p.length≤n
section
variable {m n:Nat}{B C S:List (List Nat)}
theorem Kc.bb (h:Kc m n B)(h8:n≤7):Bb m B:=(bb_of h.bk h.ks (by omega) fun p hp=>by have:=h.l7 p hp;omega).1
theorem Kc.len (h:Kc m n B)(h8:n≤7):B.length≤1+n*3:=(bb_of h.bk h.ks (by omega) fun p hp=>by have:=h.l7 p hp;omega).2
theorem Kc.of_gr (m2:2≤m)(m4:m≤4){t:Nat}(g:My.Gr m t B)(ht:t+1≤n):Kc m n B :=
 ⟨g.book m2 m4,by have:=g.keys m2 m4;omega,fun p hp=>by have:=g.short m2 m4 p hp;omega⟩
theorem Kc.part (h:Kc m n B){p:List Nat}(hp:p∈B):Kc m (n+1) (My.part m B (B.idxOf p)):=by
 obtain⟨b1,b2⟩:=h.bk.partAt hp
 refine⟨b1,?_,fun q hq=>?_⟩
 ·have:(z8 (My.part m B (B.idxOf p))).length≤(p::z8 B).length:=(vX _).length_le_of_subset fun x hx=>by
   rcases(b2 x).mp (innerKeys_mem.mp hx) with z|z
   ·exact .tail _ (innerKeys_mem.mpr z)
   ·exact z▸.head _
  have:=h.ks
  simp only[List.length_cons] at *
  omega
 ·rcases (part_mem h.bk.nd (List.idxOf_lt_length_iff.mpr hp)).mp hq with z|z
  ·have:=h.l7 q z.1
   omega
  ·obtain ⟨c,_,rfl⟩:=kids_mem.mp z
   have e:B.getD (B.idxOf p) []=p:=by
    rw[List.getD_eq_getElem?_getD,List.getElem?_eq_getElem (List.idxOf_lt_length_iff.mpr hp)]
    exact List.getElem_idxOf (List.idxOf_lt_length_iff.mpr hp)
   rw[e]
   have:=h.l7 p hp
   simp
   omega
end
end Pg
namespace Pg
open PySem L2 My
end Pg
set_option maxHeartbeats 4000000
namespace Pg
open PySem L2 My PyProof.Rows
mutual
theorem eqv_self:∀d:D,PyData.eqv d.py d.py=true
 | .non=>rfl
 | .bl b=>by cases b <;>rfl
 | .int i=>by show decide (i=i)=true;exact decide_eq_true rfl
 | .str l=>(zeg l l).trans (decide_eq_true rfl)
 | .lst xs=>zbu xs
 | .tup xs=>zbu xs
 | .dct _=>rfl
 | .exc _=>rfl
theorem zbu:∀xs:List D,PyData.eqvAll (D.pys xs) (D.pys xs)=true
 | []=>rfl
 | d::ds=>by
  show(PyData.eqv d.py d.py&&PyData.eqvAll (D.pys ds) (D.pys ds))=true
  rw[eqv_self d,zbu ds];rfl
end
theorem zej {n:Nat}:∀{xs:List D},(∀d∈xs,d.py.depth≤n)→PyData.depthAll (D.pys xs)≤n
 | [],_=>Nat.zero_le _
 | d::ds,h=>by
  show max (PyData.depth d.py) (PyData.depthAll (D.pys ds))≤n
  exact Nat.max_le.mpr ⟨h d List.mem_cons_self,zej fun e he=>h e (List.mem_cons_of_mem _ he)⟩
theorem eqD_self (neg:Bool){d:D}(h:d.pl=true)(hd:d.py.depth≤60):eqD neg d d=some (.bl (!neg)):=by
 unfold eqD
 rw[if_pos ⟨h,h,hd⟩,eqv_self d]
 cases neg <;>rfl
theorem dep_lst {n:Nat}{xs:List D}(h:∀d∈xs,d.py.depth≤n):(D.lst xs).py.depth≤n+1:=by
 show PyData.depthAll (D.pys xs)+1≤n+1
 have:=zej h
 omega
theorem dep_tup {n:Nat}{xs:List D}(h:∀d∈xs,d.py.depth≤n):(D.tup xs).py.depth≤n+1:=by
 show PyData.depthAll (D.pys xs)+1≤n+1
 have:=zej h
 omega
end Pg
set_option maxHeartbeats 1000000
namespace L2
open PySem PySem.Spec PyProof.Rows
inductive Fl where
 | dt (d:D)|ls (ds:List D)
abbrev Ob:=List Fl
structure Kd where
 C:Addr
 nm:List Str
 N:List Nat
structure Pt (kd:Kd) where
 a:Addr
 dx:Addr
 ad:Nat→Addr
def Pt.cell {kd:Kd}(p:Pt kd)(b:Addr):Prop:=b=p.a∨∃i∈kd.N,b=p.ad i
def FlR (K:PySem.W.Frag)(cl:Nat→Addr){kd:Kd}(F H:Hp)(p:Pt kd)(i:Nat)(v:V):Fl→Prop
 | .dt d=>Dt K cl F v d
 | .ls ds=>i∈kd.N∧v=.ref (p.ad i)∧F (p.ad i)=none∧∃us,H (p.ad i)=some (.lst us)∧Dts K cl F us ds
structure Sto (K:PySem.W.Frag)(cl:Nat→Addr){kd:Kd}(F H:Hp)(p:Pt kd)(S:Ob):Prop where
 fs:∃vs:List V,H p.a=some (.ins kd.C p.dx (kd.nm.zip vs))∧vs.length=S.length∧∀(i:Nat) fl,S[i]? = some fl→∃v,vs[i]? = some v∧FlR K cl F H p i v fl
 fa:F p.a=none
 nl:kd.nm.length=S.length
 lt:∀i∈kd.N,∃ds,S[i]? = some (.ls ds)
 inj:∀i∈kd.N,∀j∈kd.N,p.ad i=p.ad j→i=j
structure GrS {kd:Kd}(p:Pt kd)(F H F' H':Hp):Prop where
 ff:Same F F'
 hh:∀b o,H b=some o→¬p.cell b→H' b=some o
 fh:Same F' H'
 no:∀b o,H b=some o→o.mu=true→F b=none→F' b=none
 mm:∀b o,p.cell b→H b=some o→o.mu=true→∃o',H' b=some o'∧o'.mu=true
section
variable {K:PySem.W.Frag}{cl:Nat→Addr}{F F' H H':Hp}{kd:Kd}{p:Pt kd}{S:Ob}
theorem Gr.grS (g:Gr F H F' H'):GrS p F H F' H':=⟨g.ff,fun b o e _=>g.hh b o e,g.fh,g.no,fun b o _ e m=>⟨o,g.hh b o e,m⟩⟩
theorem GrS.trans {F1 H1 F2 H2 F3 H3:Hp}(a:GrS p F1 H1 F2 H2)(b:GrS p F2 H2 F3 H3):GrS p F1 H1 F3 H3 where
 ff:=a.ff.trans b.ff
 hh:=fun c o e n=>b.hh c o (a.hh c o e n) n
 fh:=b.fh
 no := fun c o e m q=>by
  by_cases hc:p.cell c
  ·obtain⟨o',e',m'⟩:=a.mm c o hc e m
   exact b.no c o' e' m' (a.no c o e m q)
  ·exact b.no c o (a.hh c o e hc) m (a.no c o e m q)
 mm:=fun c o hc e m=>by
  obtain⟨o',e',m'⟩:=a.mm c o hc e m
  exact b.mm c o' hc e' m'
theorem Sto.grow (s:Sto K cl F H p S)(g:Gr F H F' H'):Sto K cl F' H' p S:=by
 obtain⟨vs,e,l,k⟩:=s.fs
 refine⟨⟨vs,g.hh _ _ e,l,fun i fl h=>?_⟩,g.no _ _ e rfl s.fa,s.nl,s.lt,s.inj⟩
 obtain⟨v,hv,r⟩:=k i fl h
 refine⟨v,hv,?_⟩
 cases fl with
 | dt d=>exact Dt.mono r g.ff
 | ls ds =>
  obtain⟨h1,h2,h3,us,h4,h5⟩:=r
  exact⟨h1,h2,g.no _ _ h4 rfl h3,us,g.hh _ _ h4,h5.mono g.ff⟩
theorem Rl.here {H0 F0:Hp}{ρ:Rho}{σ:St}(R:Rl K cl H0 F0 ρ σ H F):Rl K cl F F ρ σ H F where
 gr:=⟨Same.refl _,R.fh,R.fh,fun _ _ _ _ q=>q⟩
 len:=R.len
 fz:=R.fz
 ow:=fun i d e=>let ⟨a,vs,h1,h2,h3,h4,h5⟩:=R.ow i d e;⟨a,vs,h1,h2,h3,h3,h5⟩
 od:=fun i d e=>let ⟨a,vs,h1,h2,h3,h4,h5⟩:=R.od i d e;⟨a,vs,h1,h2,h3,h3,h5⟩
 ap:=R.ap
structure RS (K:PySem.W.Frag)(cl:Nat→Addr){kd:Kd}(p:Pt kd)(q:Nat)(ρ:Rho)(σ:St)(H F:Hp):Prop where
 rl:Rl K cl F F ρ σ H F
 at_:σ[q]? = some (some (.ref p.a))
 no:ρ[q]? = some .no
 ap:∀(i:Nat) s b,ρ[i]? = some s→s.own=true→σ[i]? = some (some (.ref b))→¬p.cell b
theorem RS.fh {q:Nat}{ρ:Rho}{σ:St}(R:RS K cl p q ρ σ H F):Same F H:=R.rl.fh
theorem RS.grow {q:Nat}{ρ:Rho}{σ:St}(R:RS K cl p q ρ σ H F)(g:GrS p F H F' H'):RS K cl p q ρ σ H' F' where
 rl := {
  gr:=⟨Same.refl _,g.fh,g.fh,fun _ _ _ _ q=>q⟩
  len:=R.rl.len
  fz:=fun i d e=>let ⟨v,h1,h2⟩:=R.rl.fz i d e;⟨v,h1,h2.mono g.ff⟩
  ow:=fun i d e=>by
   obtain⟨a,vs,h1,h2,h3,h4,h5⟩:=R.rl.ow i d e
   have n:=g.no _ _ h2 rfl h3
   exact⟨a,vs,h1,g.hh _ _ h2 (R.ap i _ a e rfl h1),n,n,h5.mono g.ff⟩
  od:=fun i d e=>by
   obtain⟨a,vs,h1,h2,h3,h4,h5⟩:=R.rl.od i d e
   have n:=g.no _ _ h2 rfl h3
   exact⟨a,vs,h1,g.hh _ _ h2 (R.ap i _ a e rfl h1),n,n,h5.mono g.ff⟩
  ap:=R.rl.ap}
 at_:=R.at_
 no:=R.no
 ap:=R.ap
theorem GrS.refl (h:Same F H):GrS p F H F H:=(Gr.refl h).grS
end
abbrev Ro (α:Type):=Option (α×Ob)
def OG {α β:Type}(W:Hp→β→α→Prop)(K:PySem.W.Frag)(cl:Nat→Addr){kd:Kd}(p:Pt kd)(F H:Hp)(r:Ro α)(Q:β→Hp→Prop):Prop :=
 match r with
 | some (d,S)=>∀v H' F',GrS p F H F' H'→Sto K cl F' H' p S→W F' v d→Q v H'
 | none=>False
abbrev OE2 (K:PySem.W.Frag)(cl:Nat→Addr){kd:Kd}(p:Pt kd)(F H:Hp)(r:Ro D)(Q:VK):Prop:=OG (Dt K cl) K cl p F H r Q
abbrev OA2 (K:PySem.W.Frag)(cl:Nat→Addr){kd:Kd}(p:Pt kd)(F H:Hp)(r:Ro (List D))(Q:List V→Hp→Prop):Prop:=OG (Dts K cl) K cl p F H r Q
def tE2 (K:PySem.W.Frag)(cl:Nat→Addr)(kd:Kd)(q:Nat)(f:Rho→Ob→Ro D):TE:=fun σ H Q=>∃(p:Pt kd) (ρ:Rho) (F:Hp) (S:Ob),RS K cl p q ρ σ H F∧Sto K cl F H p S∧OE2 K cl p F H (f ρ S) Q
def tA2 (K:PySem.W.Frag)(cl:Nat→Addr)(kd:Kd)(q:Nat)(f:Rho→Ob→Ro (List D)):TA:=fun σ H Q=>∃(p:Pt kd) (ρ:Rho) (F:Hp) (S:Ob),RS K cl p q ρ σ H F∧Sto K cl F H p S∧OA2 K cl p F H (f ρ S) Q
def XE2 (X:Cx)(cl:Nat→Addr)(kd:Kd)(q:Nat)(e:Expr)(f:Rho→Ob→Ro D):Prop:=PE X e (tE2 X.K cl kd q f)
def XA2 (X:Cx)(cl:Nat→Addr)(kd:Kd)(q:Nat)(es:List Expr)(f:Rho→Ob→Ro (List D)):Prop:=PA X es (tA2 X.K cl kd q f)
def up {α:Type}(f:Rho→Rs α):Rho→Ob→Ro α:=fun ρ S=>match f ρ with | .ok a=>some (a,S)|_=>none
def b2 {α β:Type}(f:Rho→Ob→Ro α)(g:α→Rho→Ob→Ro β):Rho→Ob→Ro β:=fun ρ S=>match f ρ S with|some (a,S')=>g a ρ S'|none=>none
section
variable {X:Cx}{cl:Nat→Addr}{E:XK}{kd:Kd}{q:Nat}
theorem kZ {e:Expr}{f:Rho→Rs D}(h:XE X cl E e f):XE2 X cl kd q e (up f):=by
 intro pins s σ H Q I ⟨p,ρ,F,S,R,st,o⟩
 refine h pins s σ H Q I ⟨F,F,ρ,F,R.rl,?_⟩
 unfold up at o
 cases e:f ρ with
 | ok d=>rw[e] at o;exact fun v H' F' g q=>o v H' F' g.grS (st.grow g) q
 | ex n=>rw[e] at o;exact o.elim
 | no=>rw[e] at o;exact o.elim
theorem xa2_up {es:List Expr}{f:Rho→Rs (List D)}(h:XA X cl E es f):XA2 X cl kd q es (up f):=by
 intro pos pins s σ H Q I ⟨p,ρ,F,S,R,st,o⟩
 refine h pos pins s σ H Q I ⟨F,F,ρ,F,R.rl,?_⟩
 unfold up at o
 cases e:f ρ with
 | ok d=>rw[e] at o;exact fun v H' F' g q=>o v H' F' g.grS (st.grow g) q
 | ex n=>rw[e] at o;exact o.elim
 | no=>rw[e] at o;exact o.elim
end
end L2
namespace L2
open PySem PySem.Spec PyProof.Rows
section
variable {K:PySem.W.Frag}{cl:Nat→Addr}{kd:Kd}{p:Pt kd}{F H:Hp}{ρ:Rho}{S:Ob}
theorem OG.bd {α β α' β':Type}{W:Hp→β→α→Prop}{W':Hp→β'→α'→Prop}{f:Rho→Ob→Ro α}{k:α→Rho→Ob→Ro α'}{Q:β'→Hp→Prop}{P:β→Hp→Prop}(h:OG W' K cl p F H (b2 f k ρ S) Q)
  (kk:∀a v H1 F1 S1,GrS p F H F1 H1→Sto K cl F1 H1 p S1→W F1 v a→OG W' K cl p F1 H1 (k a ρ S1) Q→P v H1):OG W K cl p F H (f ρ S) P:=by
 unfold b2 at h
 cases e:f ρ S with
 | none=>rw[e] at h;exact h
 | some a =>
  obtain⟨a,S1⟩:=a
  rw[e] at h
  exact fun v H1 F1 g st w=>kk a v H1 F1 S1 g st w (by
   have h':OG W' K cl p F H (k a ρ S1) Q:=h
   show OG W' K cl p F1 H1 (k a ρ S1) Q
   cases e2:k a ρ S1 with
   | none=>rw[e2] at h';exact h'
   | some r =>
    obtain⟨r,S2⟩:=r
    rw[e2] at h'
    exact fun v' H2 F2 g2 st2 w2=>h' v' H2 F2 (g.trans g2) st2 w2)
theorem OG.here {α β:Type}{W:Hp→β→α→Prop}{d:α}{v:β}{Q:β→Hp→Prop}(h:OG W K cl p F H (some (d,S)) Q)(fh:Same F H)(st:Sto K cl F H p S)(w:W F v d):Q v H:=h v H F (GrS.refl fh) st w
theorem OG.end_ {α β:Type}{W:Hp→β→α→Prop}{o:Option α}{Q:β→Hp→Prop}(h:OG W K cl p F H (o.map fun d=>(d,S)) Q)(st:Sto K cl F H p S):∃d,o=some d∧∀v H' F',Gr F H F' H'→W F' v d→Q v H':=by
 cases o with
 | none=>exact h.elim
 | some d=>exact⟨d,rfl,fun v H' F' g w=>h v H' F' g.grS (st.grow g) w⟩
end
def e1 (g:D→Option D)(fa:Rho→Ob→Ro D):Rho→Ob→Ro D:=b2 fa fun a _ S=>(g a).map fun d=>(d,S)
def e2 (g:D→D→Option D)(fa fb:Rho→Ob→Ro D):Rho→Ob→Ro D:=b2 fa fun a=>b2 fb fun b _ S=>(g a b).map fun d=>(d,S)
def eO (g:List D→Option D)(fs:Rho→Ob→Ro (List D)):Rho→Ob→Ro D:=b2 fs fun as _ S=>(g as).map fun d=>(d,S)
def rsO:Rs D→Option D
 | .ok d=>some d
 | _=>none
def eA (g:List D→Rs D)(fs:Rho→Ob→Ro (List D)):Rho→Ob→Ro D:=b2 fs fun as _ S=>(rsO (g as)).map fun d=>(d,S)
def cN:Rho→Ob→Ro (List D):=fun _ S=>some ([],S)
def cC (fa:Rho→Ob→Ro D)(fs:Rho→Ob→Ro (List D)):Rho→Ob→Ro (List D):=b2 fa fun a=>b2 fs fun as _ S=>some (a::as,S)
def truO:D→Option Bool
 | .bl b=>some b
 | _=>none
section
variable {X:Cx}{cl:Nat→Addr}{kd:Kd}{q:Nat}{a b:Expr}{fa fb:Rho→Ob→Ro D}{pos:Pos}
theorem xe2_op {op:Operator}{r:R2}{g:D→D→Option D}(ho:OpR X (binaryOp op) r)(hg:Op2 X.K cl r g)(ha:XE2 X cl kd q a fa)(hb:XE2 X cl kd q b fb):XE2 X cl kd q (.BinOp a op b pos) (e2 g fa fb):=by
 intro pins s σ H Q I ⟨p,ρ,F,S,R,st,o⟩
 refine pe_op ho ha hb pins s σ H Q I ⟨p,ρ,F,S,R,st,o.bd fun d v H1 F1 S1 g1 st1 w1 o1=>?_⟩
 refine⟨p,ρ,F1,S1,R.grow g1,st1,o1.bd fun d2 v2 H2 F2 S2 g2 st2 w2 o2=>?_⟩
 obtain⟨z,hz,k⟩:=o2.end_ st2
 exact hg F2 H2 v v2 d d2 z _ g2.fh (Dt.mono w1 g2.ff) w2 hz k
theorem jr:XA2 X cl kd q [] cN:=by
 intro pos pins s σ H Q I ⟨p,ρ,F,S,R,st,o⟩
 exact uD pos pins s σ H Q I (o.here R.fh st .nil)
theorem yE {es:List Expr}{fs:Rho→Ob→Ro (List D)}(ha:XE2 X cl kd q a fa)(hs:XA2 X cl kd q es fs)(he:starEach (a::es) X.env=(false,eval a X.env)::starEach es X.env):XA2 X cl kd q (a::es) (cC fa fs):=by
 intro pos pins s σ H Q I ⟨p,ρ,F,S,R,st,o⟩
 refine xK ha hs he pos pins s σ H Q I ⟨p,ρ,F,S,R,st,o.bd fun d v H1 F1 S1 g1 st1 w1 o1=>?_⟩
 refine⟨p,ρ,F1,S1,R.grow g1,st1,o1.bd fun ds vs H2 F2 S2 g2 st2 w2 o2=>?_⟩
 exact o2.here g2.fh st2 (.cons (Dt.mono w1 g2.ff) w2)
theorem xe2_tup {es:List Expr}{x1}{fs:Rho→Ob→Ro (List D)}(h:XA2 X cl kd q es fs):XE2 X cl kd q (.Tuple es x1 pos) (eO mkT fs):=by
 intro pins s σ H Q I ⟨p,ρ,F,S,R,st,o⟩
 refine pe_tup h pins s σ H Q I ⟨p,ρ,F,S,R,st,o.bd fun ds vs H1 F1 S1 g1 st1 w1 o1=>?_⟩
 obtain⟨z,hz,k⟩:=o1.end_ st1
 unfold mkT at hz
 split at hz
 ·rename_i hl
  obtain rfl:=Option.some.inj hz
  have fh:=g1.fh
  exact⟨sz6 (Dts.length w1▸hl),fun c hp=>k _ _ _ (Gr.new fh hp) (.tup (.inl (.inl zM)) (Dts.mono w1 (Same.upd (fh.free hp))))⟩
 ·cases hz
theorem jG {E:XK}{k:Nat}{f:Addr}{fd:FuncData}{ps:List Str}{fn:List D→Rs D}{n:Nat}{x:Str}{p:Pos}{e:Expr}{es:List Expr}{fs:Rho→Ob→Ro (List D)}(G:FnOk X.prog X.w X.K X.mg X.base (CX1 X.prog X.w) k f fd ps (spD X.K cl fn n))(hr:Room k X.A)(hg:Gl X x)(hm:X.mg x=some (.ref f))(hk:PySem.W.keepIn X.K (.ref f)=true)(hb:Binds X.K fd ps [])(hx:vR (CX1 X.prog X.w) X E)
  (ha:XA2 X cl kd q (e::es) fs) (he:starEach (e::es) X.env=(false,eval e X.env)::starEach es X.env) (hdb:(x == ("__debug__" : Str))=false:=by decide) (hpl:(backTo pos (starEach es X.env)).any (·.1)=false:=by rfl):XE2 X cl kd q (.Call (.Name x p) (e::es) [] pos) (eA (ari n fn) fs):=by
 intro pins s σ H Q I ⟨p,ρ,F,S,R,st,o⟩
 refine pe_call G hr hg hm hk hb .nil hx ha hdb he hpl pins s σ H Q I ⟨p,ρ,F,S,R,st,o.bd fun ds vs H1 F1 S1 g1 st1 w1 o1=>?_⟩
 obtain⟨z,hz,k⟩:=o1.end_ st1
 unfold ari at hz
 split at hz
 ·rename_i hl
  rw[List.append_nil]
  refine⟨F1,ds,g1.fh,w1,by rw[Dts.length w1,hl],?_⟩
  cases e:fn ds with
  | ok d =>
   rw[e] at hz
   obtain rfl:=Option.some.inj hz
   exact fun v H' F' g' w'=>k v H' F' g' w'
  | ex n=>rw[e] at hz;cases hz
  | no=>rw[e] at hz;cases hz
 ·cases hz
end
end L2
namespace L2
open PySem PySem.Spec PyProof.Rows
theorem zbW:∀{nm:List Str}{vs:List V}{i:Nat}{f:Str}{v:V},nm.Nodup→nm[i]? = some f→vs[i]? = some v→(nm.zip vs).lookup f=some v
 | [],_,_,_,_,_,h,_=>by simp at h
 | _::_,[],_,_,_,_,_,h=>by simp at h
 | n::nm,w::vs,0,f,v,_,h,h2=>by
  simp at h h2;subst h h2
  rw[List.zip_cons_cons,List.lookup_cons];simp
 | n::nm,w::vs,i+1,f,v,nd,h,h2=>by
  have h':nm[i]? = some f:=by simpa using h
  have h2':vs[i]? = some v:=by simpa using h2
  have ne:¬f=n:=fun z=>by subst z;exact(List.nodup_cons.mp nd).1 (List.mem_of_getElem? h')
  rw[List.zip_cons_cons,List.lookup_cons,show(f == n)=false from by simpa using ne]
  exact zbW (List.nodup_cons.mp nd).2 h' h2'
theorem xq:∀{nm:List Str}{vs:List V}{f:Str},f∉nm→(nm.zip vs).lookup f=none
 | [],_,_,_=>by simp
 | _::_,[],_,_=>by simp
 | n::nm,w::vs,f,h=>by
  have ne:¬f=n:=fun z=>h (by simp[z])
  rw[List.zip_cons_cons,List.lookup_cons,show(f == n)=false from by simpa using ne]
  exact xq fun z=>h (List.mem_cons_of_mem _ z)
section
variable {K:PySem.W.Frag}{cl:Nat→Addr}{kd:Kd}{p:Pt kd}{F H:Hp}{S:Ob}
theorem Sto.lst (st:Sto K cl F H p S){i:Nat}(hi:i∈kd.N):∃ds us,S[i]? = some (.ls ds)∧H (p.ad i)=some (.lst us)∧Dts K cl F us ds∧F (p.ad i)=none:=by
 obtain⟨ds,e⟩:=st.lt i hi
 obtain⟨vs,_,_,k⟩:=st.fs
 obtain⟨v,_,h1,h2,h3,us,h4,h5⟩:=k i _ e
 exact⟨ds,us,e,h4,h5,h3⟩
theorem Sto.put (st:Sto K cl F H p S)(fh:Same F H){i:Nat}(hi:i∈kd.N){us:List V}{ds:List D}(q:Dts K cl F us ds):Sto K cl F (upd H (p.ad i) (.lst us)) p (S.set i (.ls ds))∧GrS p F H F (upd H (p.ad i) (.lst us)):=by
 obtain⟨vs,e,l,k⟩:=st.fs
 obtain⟨d0,u0,e0,h0,q0,f0⟩:=st.lst hi
 have il:i<S.length:=(List.getElem?_eq_some_iff.mp e0).1
 have na:p.a≠p.ad i:=fun z=>by rw[z,h0] at e;cases e
 refine⟨⟨⟨vs,by rw[zJ na];exact e,by rw[List.length_set];exact l,fun j fl hj=>?_⟩,st.fa,by rw[List.length_set];exact st.nl,fun j hj=>?_,st.inj⟩,⟨Same.refl _,fun b o hb n=>?_,fun b o hb=>?_,fun _ _ _ _ z=>z,fun b o hc hb m=>?_⟩⟩
 ·rcases get_set hj with⟨rfl,z,_⟩|⟨ne,z⟩
  ·subst z
   obtain⟨v,hv,h1,h2,h3,_⟩:=k i _ e0
   exact⟨v,hv,h1,h2,h3,us,zM,q⟩
  ·obtain ⟨v,hv,r⟩:=k j fl z
   refine⟨v,hv,?_⟩
   cases fl with
   | dt d=>exact r
   | ls ds' =>
    obtain⟨h1,h2,h3,us',h4,h5⟩:=r
    exact⟨h1,h2,h3,us',by rw[zJ fun z=>ne (st.inj i hi j h1 z.symm)];exact h4,h5⟩
 ·by_cases ne:i=j
  ·subst ne;exact⟨ds,xM il⟩
  ·obtain⟨ds',z⟩:=st.lt j hj
   exact⟨ds',by rw[List.getElem?_set_ne ne];exact z⟩
 ·rw[zJ fun z=>n (.inr ⟨i,hi,z⟩)];exact hb
 ·rw[zJ fun z=>by rw[z,f0] at hb;cases hb];exact fh b o hb
 ·by_cases z:b=p.ad i
  ·subst z;exact⟨_,zM,rfl⟩
  ·exact⟨o,by rw[zJ z];exact hb,m⟩
theorem Sto.ice (st:Sto K cl F H p S)(fh:Same F H){i:Nat}{ds:List D}(e:S[i]? = some (.ls ds)):∃F1,Same F1 H∧Dt K cl F1 (.ref (p.ad i)) (.lst ds)∧(∀F2 H2,Gr F1 H F2 H2→Gr F H F H2)∧Same F F1:=by
 obtain⟨vs,_,_,k⟩:=st.fs
 obtain⟨v,_,h1,h2,h3,us,h4,h5⟩:=k i _ e
 refine⟨upd F (p.ad i) (.lst us),fun b o hb=>?_,.lst (.inl (.inl zM)) (h5.mono (Same.upd h3)),fun F2 H2 g=>⟨Same.refl _,g.hh,fh.trans g.hh,fun _ _ _ _ z=>z⟩,Same.upd h3⟩
 by_cases z:b=p.ad i
 ·subst z;rw[zM] at hb;rw[← hb];exact h4
 ·rw[zJ z] at hb;exact fh b o hb
end
theorem Dt.anyF {K:PySem.W.Frag}{cl:Nat→Addr}{F F':Hp}{v:V}{d:D}(q:Dt K cl F v d)(h:d.fl=true):Dt K cl F' v d:=by
 cases q with
 | non=>exact .non
 | bl b=>exact .bl b
 | int i=>exact .int i
 | str l ok=>exact .str l ok
 | _=>simp[D.fl] at h
def oD (i:Nat):Rho→Ob→Ro D:=fun _ S=>match S[i]? with|some (.dt d)=>some (d,S)|_=>none
def oL (i:Nat)(g:List D→Option D):Rho→Ob→Ro D:=fun _ S=>match S[i]? with|some (.ls ds)=>(match g ds with|some d=>if d.fl=true then some (d,S) else none|none=>none)|_=>none
def oApp (i:Nat)(fa:Rho→Ob→Ro D):Rho→Ob→Ro D:=b2 fa fun a _ S=>match S[i]? with|some (.ls ds)=>if ds.length<1000000 then some (.non,S.set i (.ls (ds++[a]))) else none|_=>none
def oClr (i:Nat):Rho→Ob→Ro D:=fun _ S=>some (.non,S.set i (.ls []))
structure At (X:Cx)(kd:Kd)(i:Nat)(o:Expr)(f:Str):Prop where
 c:Cls X.K kd.C
 n:NoAttr X.K kd.C f
 hi:kd.nm[i]? = some f
 nd:kd.nm.Nodup
 base:attributeBase o f X.env (eval o X.env)=eval o X.env
section
variable {X:Cx}{cl:Nat→Addr}{kd:Kd}{q:Nat}{o e:Expr}{f:Str}{i:Nat}{pos apos cpos:Pos}{fa:Rho→Ob→Ro D}
theorem fld_of {σ:St}{H F:Hp}{p:Pt kd}{ρ:Rho}{S:Ob}{v:V}{Q:VK}(A:At X kd i o f)(R:RS X.K cl p q ρ σ H F)(st:Sto X.K cl F H p S){vs:List V}(e:H p.a=some (.ins kd.C p.dx (kd.nm.zip vs)))(hv:vs[i]? = some v)(h:Q v H):tFld X.K (zcE q) f σ H Q :=
 ⟨.ref p.a,R.at_,p.a,kd.C,p.dx,_,v,rfl,e,A.c,A.n,zbW A.nd A.hi hv,h⟩
theorem zcx (A:At X kd i o f)(ho:PE X o (zcE q)):XE2 X cl kd q (.Attribute o f pos) (oD i):=by
 intro pins s σ H Q I ⟨p,ρ,F,S,R,st,oo⟩
 refine pe_fld ho A.base pins s σ H Q I ?_
 unfold oD at oo
 split at oo
 ·rename_i d hd
  obtain⟨vs,e,l,k⟩:=st.fs
  obtain⟨v,hv,r⟩:=k i _ hd
  exact fld_of A R st e hv (oo.here R.fh st r)
 ·exact oo.elim
def tL2 (K:PySem.W.Frag)(cl:Nat→Addr)(kd:Kd)(q i:Nat):TE:=fun σ H Q=>∃(p:Pt kd) (ρ:Rho) (F:Hp) (S:Ob),RS K cl p q ρ σ H F∧Sto K cl F H p S∧i∈kd.N∧Q (.ref (p.ad i)) H
theorem pe_l2 (A:At X kd i o f)(ho:PE X o (zcE q)):PE X (.Attribute o f pos) (tL2 X.K cl kd q i):=by
 intro pins s σ H Q I ⟨p,ρ,F,S,R,st,hi,h⟩
 refine pe_fld ho A.base pins s σ H Q I ?_
 obtain⟨ds,hd⟩:=st.lt i hi
 obtain⟨vs,e,l,k⟩:=st.fs
 obtain⟨v,hv,h1,rfl,_⟩:=k i _ hd
 exact fld_of A R st e hv h
theorem xe2_app {pos':Pos}(hN:i∈kd.N)(A:At X kd i o f)(ho:PE X o (zcE q))(ha:XE2 X cl kd q e fa)(m:Mth X (.Attribute o f pos') e "append" apos cpos):XE2 X cl kd q (.Call (.Attribute (.Attribute o f pos') "append" apos) [e] [] cpos) (oApp i fa):=by
 intro pins s σ H Q I ⟨p,ρ,F,S,R,st,oo⟩
 refine zeq PySem.F.plainAttrs_list PySem.F.slot_list_append PySem.F.type_list_append zc0 (pe_l2 (cl:=cl) A ho) (xK ha uD m.hs) m.base m.few m.line m.hs m.plain pins s σ H Q I ?_
 obtain⟨ds,us,e1,h1,q1,f1⟩:=st.lst hN
 refine⟨p,ρ,F,S,R,st,hN,.inl ⟨rfl,us,.inl (.inl h1)⟩,p,ρ,F,S,R,st,oo.bd fun a v H1 F1 S1 g1 st1 w1 o1=>?_⟩
 obtain⟨ds1,us1,e2,h2,q2,f2⟩:=st1.lst hN
 have o2:OE2 X.K cl p F1 H1 (match S1[i]? with|some (.ls ds)=>if ds.length<1000000 then some (.non,S1.set i (.ls (ds++[a]))) else none|_=>none) Q:=o1
 simp only[e2] at o2
 split at o2
 ·rename_i hl
  obtain⟨st2,g2⟩:=st1.put g1.fh hN (q2.append (.cons w1 .nil))
  exact⟨p.ad i,us1,v,rfl,rfl,h2,by rw[q2.length,sizeLine_eq];omega,o2 _ _ F1 g2 st2 .non⟩
 ·exact o2.elim
theorem xe2_clr {pos':Pos}(hN:i∈kd.N)(A:At X kd i o f)(ho:PE X o (zcE q))(hb:attributeBase (.Attribute o f pos') "clear" X.env (eval (.Attribute o f pos') X.env)=eval (.Attribute o f pos') X.env)(hline:(apos.endLine == cpos.line)=true):XE2 X cl kd q (.Call (.Attribute (.Attribute o f pos') "clear" apos) [] [] cpos) (oClr i):=by
 intro pins s σ H Q I ⟨p,ρ,F,S,R,st,oo⟩
 refine pe_bm0 PySem.F.plainAttrs_list PySem.F.slot_list_clear PySem.F.type_list_clear mt_clear (pe_l2 (cl:=cl) A ho) hb hline pins s σ H Q I ?_
 obtain⟨ds,us,e1,h1,q1,f1⟩:=st.lst hN
 obtain⟨st2,g2⟩:=st.put R.fh hN Dts.nil
 exact⟨p,ρ,F,S,R,st,hN,.inl ⟨rfl,us,.inl (.inl h1)⟩,p.ad i,us,rfl,rfl,h1,oo _ _ F g2 st2 .non⟩
theorem oL_inv {p:Pt kd}{F H:Hp}{ρ:Rho}{S:Ob}{g:List D→Option D}{Q:VK}(oo:OE2 X.K cl p F H (oL i g ρ S) Q):∃ds d,S[i]? = some (.ls ds)∧g ds=some d∧d.fl=true∧OE2 X.K cl p F H (some (d,S)) Q:=by
 unfold oL at oo
 split at oo
 ·rename_i ds e
  split at oo
  ·rename_i d hd
   split at oo
   ·rename_i hf
    exact⟨ds,d,e,hd,hf,oo⟩
   ·exact oo.elim
  ·exact oo.elim
 ·exact oo.elim
theorem zdw {id:String}{r:List V→Hp→VK→Prop}{g:List D→Option D}{x:Str}{p':Pos}{pos':Pos}(hN:i∈kd.N)(A:At X kd i o f)(ho:PE X o (zcE q))(hc:jj X (.builtin id) r)(hF:Fn1 X.K cl r g)(hg:Gl X x)(hm:X.mg x=none)(hv:bootBuiltins x=some (.builtin id))(he:starEach [.Attribute o f pos'] X.env=(false,eval (.Attribute o f pos') X.env)::starEach [] X.env)(hn:x ≠ "__name__" := by decide)(hdb:(x == ("__debug__" : Str))=false:=by decide)(hpl:(backTo pos (starEach [] X.env)).any (·.1)=false:=by rfl) :
  XE2 X cl kd q (.Call (.Name x p') [.Attribute o f pos'] [] pos) (oL i fun ds=>g [.lst ds]):=by
 intro pins s σ H Q I ⟨p,ρ,F,S,R,st,oo⟩
 obtain⟨ds,d,e1,hd,hf,oo⟩:=oL_inv oo
 refine zaI hc hg hm hv (xK (pe_l2 (cl:=cl) A ho) uD he) hn hdb he hpl pins s σ H Q I ⟨p,ρ,F,S,R,st,hN,?_⟩
 obtain⟨F1,s1,d1,back,_⟩:=st.ice R.fh e1
 refine hF F1 H _ _ d _ s1 (.cons d1 .nil) hd fun v H' F' g' w'=>?_
 have gg:=back F' H' g'
 exact oo v H' F gg.grS (st.grow gg) (w'.anyF hf)
theorem xe2_ixL {E:XK}{b:Expr}{j:Int}{pos':Pos}(hN:i∈kd.N)(A:At X kd i o f)(ho:PE X o (zcE q))(hb:XE X cl E b (fC (.int j)))(hs:zaP b):XE2 X cl kd q (.Subscript (.Attribute o f pos') b pos) (oL i fun ds=>ixD (.lst ds) (.int j)):=by
 intro pins s σ H Q I ⟨p,ρ,F,S,R,st,oo⟩
 obtain⟨ds,d,e1,hd,hf,oo⟩:=oL_inv oo
 refine pe_ix ix_seq (pe_l2 (cl:=cl) A ho) hb hs pins s σ H Q I ⟨p,ρ,F,S,R,st,hN,?_⟩
 obtain⟨F1,s1,d1,back,ff⟩:=st.ice R.fh e1
 refine⟨F,F,ρ,F,R.rl,fun w H1 F2 g2 w2=>?_⟩
 have st1:=st.grow g2
 obtain⟨F3,s3,d3,back3,ff3⟩:=st1.ice g2.fh e1
 refine o_ix F3 H1 _ w _ _ d _ s3 d3 (w2.mono ff3) hd fun v H' F' g' w'=>?_
 have gg:=back3 F' H' g'
 exact oo v H' F2 (g2.trans gg).grS (st1.grow gg) (w'.anyF hf)
theorem xe2_joinL {E:XK}{b:Expr}{pos':Pos}(hN:i∈kd.N)(A:At X kd i o f)(ho:PE X o (zcE q))(hb:XE X cl E b (fC (.str [])))(m:Mth X b (.Attribute o f pos') "join" apos cpos):XE2 X cl kd q (.Call (.Attribute b "join" apos) [.Attribute o f pos'] [] cpos) (oL i fun ds=>vJ (.str []) (.lst ds)):=by
 intro pins s σ H Q I ⟨p,ρ,F,S,R,st,oo⟩
 obtain⟨ds,d,e1,hd,hf,oo⟩:=oL_inv oo
 refine zeq PySem.F.plainAttrs_str PySem.F.slot_str_join PySem.F.type_str_join zea hb (xK (pe_l2 (cl:=cl) A ho) uD m.hs) m.base m.few m.line m.hs m.plain pins s σ H Q I ⟨F,F,ρ,F,R.rl,fun w H1 F2 g2 w2=>?_⟩
 cases w2 with
 | str _ ok =>
  have st1:=st.grow g2
  refine⟨rfl,p,ρ,F2,S,R.grow g2.grS,st1,hN,?_⟩
  obtain⟨F3,s3,d3,back3,ff3⟩:=st1.ice g2.fh e1
  cases d3 with
  | lst sq dq =>
   dsimp only [vJ] at hd
   split at hd
   ·rename_i h
    obtain rfl:=Option.some.inj hd
    obtain⟨x1,x2,x3⟩:=dq.texts h.1
    rw[x1] at sq
    refine⟨_,ds.map unS,rfl,rfl,s3.seq sq,h.2,oo _ H1 F2 g2.grS st1 (.str _ (jL (fun c hc=>?_) h.2))⟩
    obtain⟨y,hy,hc⟩:=List.mem_flatten.mp hc
    have a:(T y).cps.all (· < 0x110000)=true:=(x2 y hy).1
    simp only[T,List.all_toArray,List.all_eq_true,decide_eq_true_eq] at a
    exact a c hc
   ·cases hd
theorem xe2_ix {a b:Expr}{fb:Rho→Ob→Ro D}(ha:XE2 X cl kd q a fa)(hb:XE2 X cl kd q b fb)(hs:zaP b):XE2 X cl kd q (.Subscript a b pos) (e2 ixD fa fb):=by
 intro pins s σ H Q I ⟨p,ρ,F,S,R,st,o⟩
 refine pe_ix ix_seq ha hb hs pins s σ H Q I ⟨p,ρ,F,S,R,st,o.bd fun d v H1 F1 S1 g1 st1 w1 o1=>?_⟩
 refine⟨p,ρ,F1,S1,R.grow g1,st1,o1.bd fun d2 v2 H2 F2 S2 g2 st2 w2 o2=>?_⟩
 obtain⟨z,hz,k⟩:=o2.end_ st2
 exact o_ix F2 H2 v v2 d d2 z _ g2.fh (Dt.mono w1 g2.ff) w2 hz k
end
end L2
namespace L2
open PySem PySem.Spec PyProof.Rows
inductive O2 where
 | nx (ρ:Rho) (S:Ob)|rt (d:D) (S:Ob)|no
structure FS (K:PySem.W.Frag)(cl:Nat→Addr){kd:Kd}(p:Pt kd)(q:Nat)(H0 F0:Hp)(ρ:Rho)(S:Ob)(σ:St)(H F:Hp):Prop where
 gr:GrS p F0 H0 F H
 rs:RS K cl p q ρ σ H F
 st:Sto K cl F H p S
 nw:∀(i:Nat) s b,ρ[i]? = some s→s.own=true→σ[i]? = some (some (.ref b))→H0 b=none
section
variable {K:PySem.W.Frag}{cl:Nat→Addr}{kd:Kd}{p:Pt kd}{q:Nat}{H0 F0 H F H1 F1:Hp}{ρ:Rho}{S S1:Ob}{σ:St}
theorem FS.grow (f:FS K cl p q H0 F0 ρ S σ H F)(g:GrS p F H F1 H1)(st:Sto K cl F1 H1 p S1):FS K cl p q H0 F0 ρ S1 σ H1 F1:=⟨f.gr.trans g,f.rs.grow g,st,f.nw⟩
theorem FS.fh (f:FS K cl p q H0 F0 ρ S σ H F):Same F H:=f.gr.fh
theorem Sto.cellH (st:Sto K cl F H p S){b:Addr}(h:p.cell b):∃o,H b=some o∧o.mu=true:=by
 rcases h with rfl|⟨i,hi,rfl⟩
 ·obtain⟨vs,e,_⟩:=st.fs;exact⟨_,e,rfl⟩
 ·obtain⟨ds,us,_,h,_⟩:=st.lst hi;exact⟨_,h,rfl⟩
theorem FS.set (f:FS K cl p q H0 F0 ρ S σ H F){i:Nat}{v:V}{d:D}(ne:i≠q)(h:Dt K cl F v d):FS K cl p q H0 F0 (ρ.set i (.fz d)) S (σ.set i (some v)) H F where
 gr:=f.gr
 st:=f.st
 rs := {
  rl:=f.rs.rl.set h
  at_:=by rw[List.getElem?_set_ne ne];exact f.rs.at_
  no:=by rw[List.getElem?_set_ne ne];exact f.rs.no
  ap:=fun j s b z o e=>by
   rcases get_set z with⟨rfl,w,_⟩|⟨hj,w⟩
   ·subst w;cases o
   ·rw[List.getElem?_set_ne hj] at e;exact f.rs.ap j s b w o e}
 nw:=fun j s b z o e=>by
  rcases get_set z with⟨rfl,w,_⟩|⟨hj,w⟩
  ·subst w;cases o
  ·rw[List.getElem?_set_ne hj] at e;exact f.nw j s b w o e
theorem FS.setO (f:FS K cl p q H0 F0 ρ S σ H F){i:Nat}{c:Addr}{vs:List V}{ds:List D}(ne:i≠q)(hc:H c=none)(h:Dts K cl F vs ds):FS K cl p q H0 F0 (ρ.set i (.ow ds)) S (σ.set i (some (.ref c))) (upd H c (.lst vs)) F:=by
 have g:Gr F H F (upd H c (.lst vs)):=Gr.newO f.fh hc
 have hn:H0 c=none:=by
  cases e:H0 c with
  | none=>rfl
  | some o =>
   by_cases hcell:p.cell c
   ·obtain⟨o',e',_⟩:=f.st.cellH hcell
    rw[hc] at e';cases e'
   ·rw[f.gr.hh c o e hcell] at hc;cases hc
 have ncell:¬p.cell c:=fun z=>by obtain⟨o,e,_⟩:=f.st.cellH z;rw[hc] at e;cases e
 refine⟨f.gr.trans g.grS,⟨(f.rs.rl.setO hc h),?_,?_,fun j s b z o e=>?_⟩,f.st.grow g,fun j s b z o e=>?_⟩
 ·rw[List.getElem?_set_ne ne];exact f.rs.at_
 ·rw[List.getElem?_set_ne ne];exact f.rs.no
 ·rcases get_set z with⟨rfl,w,hl⟩|⟨hj,w⟩
  ·rw[xM (f.rs.rl.len▸hl)] at e
   injection e with e;injection e with e;injection e with e
   rw[← e];exact ncell
  ·rw[List.getElem?_set_ne hj] at e;exact f.rs.ap j s b w o e
 ·rcases get_set z with⟨rfl,w,hl⟩|⟨hj,w⟩
  ·rw[xM (f.rs.rl.len▸hl)] at e
   injection e with e;injection e with e;injection e with e
   rw[← e];exact hn
  ·rw[List.getElem?_set_ne hj] at e;exact f.nw j s b w o e
end
def OS2 (K:PySem.W.Frag)(cl:Nat→Addr){kd:Kd}(p:Pt kd)(q:Nat)(H0 F0 F:Hp)(o:O2)(Dn:Ends):Prop :=
 match o with
 | .nx ρ S=>∀σ H F',FS K cl p q H0 F0 ρ S σ H F'→Same F F'→Dn.nx σ H
 | .rt d S=>∀v H F',GrS p F0 H0 F' H→Sto K cl F' H p S→Dt K cl F' v d→Dn.rt v H
 | .no=>False
def tS2 (K:PySem.W.Frag)(cl:Nat→Addr)(kd:Kd)(q:Nat)(g:Rho→Ob→O2):TS:=fun Dn σ H=>∃(p:Pt kd) (H0 F0:Hp) (ρ:Rho) (F:Hp) (S:Ob),FS K cl p q H0 F0 ρ S σ H F∧OS2 K cl p q H0 F0 F (g ρ S) Dn
def XS2 (X:Cx)(cl:Nat→Addr)(kd:Kd)(q:Nat)(st:Stmt)(g:Rho→Ob→O2):Prop:=PS X st (tS2 X.K cl kd q g)
def XSs2 (X:Cx)(cl:Nat→Addr)(kd:Kd)(q:Nat)(st:List Stmt)(g:Rho→Ob→O2):Prop:=PSs X st (tS2 X.K cl kd q g)
def zSeq (g h:Rho→Ob→O2):Rho→Ob→O2:=fun ρ S=>match g ρ S with | .nx ρ' S'=>h ρ' S'|o=>o
def zRet (f:Rho→Ob→Ro D):Rho→Ob→O2:=fun ρ S=>match f ρ S with|some (d,S')=>.rt d S'|none=>.no
def zc7 (f:Rho→Ob→Ro D):Rho→Ob→O2:=fun ρ S=>match f ρ S with|some (_,S')=>.nx ρ S'|none=>.no
def zSet (i:Nat)(f:Rho→Ob→Ro D):Rho→Ob→O2:=fun ρ S=>match f ρ S with|some (d,S')=>.nx (ρ.set i (.fz d)) S'|none=>.no
section
variable {X:Cx}{cl:Nat→Addr}{kd:Kd}{q:Nat}{st:Stmt}{rest:List Stmt}{g h:Rho→Ob→O2}{f:Rho→Ob→Ro D}{e:Expr}{pos:Pos}
theorem OS2.grow {K:PySem.W.Frag}{p:Pt kd}{H0 F0 F F1:Hp}{o:O2}{Dn:Ends}(h:OS2 K cl p q H0 F0 F o Dn)(s:Same F F1):OS2 K cl p q H0 F0 F1 o Dn:=by
 cases o with
 | nx ρ S=>exact fun σ H F' R z=>h σ H F' R (s.trans z)
 | rt d S=>exact h
 | no=>exact h
theorem uM (h:XS2 X cl kd q st g):XSs2 X cl kd q [st] g:=zcP h
theorem qw (h1:XS2 X cl kd q st g)(h2:XSs2 X cl kd q rest h):XSs2 X cl kd q (st::rest) (zSeq g h):=by
 intro pins s σ H Dn I ⟨p,H0,F0,ρ,F,S,fs,o⟩
 refine j4 h1 h2 pins s σ H Dn I ⟨p,H0,F0,ρ,F,S,fs,?_⟩
 unfold zSeq at o
 cases e:g ρ S with
 | nx ρ' S'=>rw[e] at o;exact fun σ' H' F' fs' s'=>⟨p,H0,F0,ρ',F',S',fs',o.grow s'⟩
 | rt d S'=>rw[e] at o;exact o
 | no=>rw[e] at o;exact o
theorem ji (h:XE2 X cl kd q e f):XS2 X cl kd q (.Return (some e) pos) (zRet f):=by
 intro pins s σ H Dn I ⟨p,H0,F0,ρ,F,S,fs,o⟩
 refine ps_ret h pins s σ H Dn I ⟨p,ρ,F,S,fs.rs,fs.st,?_⟩
 unfold zRet at o
 cases e:f ρ S with
 | none=>rw[e] at o;exact o
 | some r=>obtain⟨d,S'⟩:=r;rw[e] at o;exact fun v H' F' gg st' w=>o v H' F' (fs.gr.trans gg) st' w
theorem zaL (h:XE2 X cl kd q e f)(hs:swapsWith e none pos.line X.env=pure false:=by rfl):XS2 X cl kd q (.Expr e pos) (zc7 f):=by
 intro pins s σ H Dn I ⟨p,H0,F0,ρ,F,S,fs,o⟩
 refine zcs h hs pins s σ H Dn I ⟨p,ρ,F,S,fs.rs,fs.st,?_⟩
 unfold zc7 at o
 cases e:f ρ S with
 | none=>rw[e] at o;exact o
 | some r=>obtain⟨d,S'⟩:=r;rw[e] at o;exact fun v H' F' gg st' w=>o σ H' F' (fs.grow gg st') gg.ff
theorem xs2_set {i:Nat}{x:Str}{pos':Pos}(ne:i≠q)(hN:X.N.Nodup)(hi:X.N[i]? = some x)(hx:Loc X.env.scope x)(he:XE2 X cl kd q e f)(hs:swapsWith e (some (.Name x pos')) pos.line X.env=pure false:=by rfl)(hf:X.fn x=true∨X.env.scope.names.lookup x=some .local:=by first|exact .inl rfl|exact .inr rfl|assumption) :
  XS2 X cl kd q (.Assign [.Name x pos'] e pos) (zSet i f):=by
 intro pins s σ H Dn I ⟨p,H0,F0,ρ,F,S,fs,o⟩
 refine zb5 hN hi hx he hs hf pins s σ H Dn I ⟨p,ρ,F,S,fs.rs,fs.st,?_⟩
 unfold zSet at o
 cases e:f ρ S with
 | none=>rw[e] at o;exact o
 | some r=>obtain⟨d,S'⟩:=r;rw[e] at o;exact fun v H' F' gg st' w=>o _ H' F' ((fs.grow gg st').set ne w) gg.ff
end
end L2
namespace L2
open PySem PySem.Spec PyProof.Rows
def spS (K:PySem.W.Frag)(cl:Nat→Addr)(kd:Kd)(fn:List D→Ob→Ro D)(n j:Nat):Sp:=fun vs H Q _=>∃(p:Pt kd) (F:Hp) (S:Ob) (us1 us2:List V) (ds1 ds2:List D),vs=us1 ++ .ref p.a::us2∧us1.length=j∧j+1+us2.length=n∧Same F H∧Sto K cl F H p S∧Dts K cl F us1 ds1∧Dts K cl F us2 ds2∧OE2 K cl p F H (fn (ds1++ds2) S) Q
def rho0 (m j:Nat)(ds:List D):Rho:=((ds.take j++D.non::ds.drop j).map Sl.fz++List.replicate (m - (ds.length+1)) Sl.no).set j .no
def zcY (m j:Nat)(g:Rho→Ob→O2)(ds:List D)(S:Ob):Ro D:=match g (rho0 m j ds) S with | .nx _ S'=>some (.non,S') | .rt d S'=>some (d,S') | .no=>none
theorem Rl.hide {K:PySem.W.Frag}{cl:Nat→Addr}{H0 F0 H F:Hp}{ρ:Rho}{σ:St}{j:Nat}{x:Option V}(R:Rl K cl H0 F0 ρ σ H F):Rl K cl H0 F0 (ρ.set j .no) (σ.set j x) H F where
 gr:=R.gr
 len:=by simp[R.len]
 fz:=fun i e z=>by
  rcases get_set z with⟨rfl,q,hl⟩|⟨hj,q⟩
  ·cases q
  ·rw[List.getElem?_set_ne hj];exact R.fz i e q
 ow:=fun i e z=>by
  rcases get_set z with⟨rfl,q,hl⟩|⟨hj,q⟩
  ·cases q
  ·rw[List.getElem?_set_ne hj];exact R.ow i e q
 od:=fun i e z=>by
  rcases get_set z with⟨rfl,q,hl⟩|⟨hj,q⟩
  ·cases q
  ·rw[List.getElem?_set_ne hj];exact R.od i e q
 ap := fun i k s t a z1 z2 o1 o2 e1 e2=>by
  rcases get_set z1 with⟨rfl,q,hl⟩|⟨hj,q⟩
  ·subst q;cases o1
  ·rcases get_set z2 with⟨rfl,q2,hl⟩|⟨hk,q2⟩
   ·subst q2;cases o2
   ·rw[List.getElem?_set_ne hj] at e1;rw[List.getElem?_set_ne hk] at e2
    exact R.ap i k s t a q q2 o1 o2 e1 e2
theorem fnS {P:Program}{w:World}{K:PySem.W.Frag}{mg:Str→Option Value}{base:Heap}{cl:Nat→Addr}{kd:Kd}{x qual:Str}{st:Stmt}{f:Addr}{fd:FuncData}{N ps:List Str}{k m n j:Nat}{g:Rho→Ob→O2}(Fu:Fun K x qual st f fd)(S:FnScope N ps (zu st))(hm:N.length=m)(hn:ps.length=n)
  (hb:∀(cdv:Value) (A:Around) (outer:List Env) (s:Shared) (H:Hp) (E:XK),Room k (A.deeper (envOfC qual (zu st) s.heap.objs.size f cdv))→XSs2 (zau (CX1 P w) P w K mg base N qual (zu st) f cdv A outer s H E) cl kd j (wH st) g):FnOk P w K mg base (CX1 P w) (k+1) f fd ps (spS K cl kd (zcY m j g) n j):=by
 subst hm hn
 refine Fu.okX S (fun vs H Q E h=>?_) fun cdv A outer s H vs Q E hr h=>?_
 ·obtain⟨p,F,S,us1,us2,ds1,ds2,rfl,h1,h2,_⟩:=h
  rw[List.length_append,List.length_cons,h1];omega
 obtain⟨p,F,S0,us1,us2,ds1,ds2,rfl,h1,h2,sm,sto,q1,q2,o⟩:=h
 have l1:ds1.length=j:=by rw[← q1.length];exact h1
 have t1:(ds1++ds2).take j=ds1:=by rw[← l1,List.take_left'];rfl
 have t2:(ds1++ds2).drop j=ds2:=by rw[← l1,List.drop_left'];rfl
 have R0:Rl K cl H F ((ds1++D.non::ds2).map .fz++List.replicate (N.length - (ds1++D.non::ds2).length) .no) (L2.start N (us1++V.non::us2)) H F:=Rl.start (N:=N) sm (q1.append (.cons .non q2))
 have eR:rho0 N.length j (ds1++ds2)=((ds1++D.non::ds2).map Sl.fz++List.replicate (N.length - (ds1++D.non::ds2).length) Sl.no).set j .no:=by
  unfold rho0
  rw[t1,t2,show(ds1++ds2).length+1=(ds1++D.non::ds2).length from by simp;omega]
 have eσ:L2.start N (us1++V.ref p.a::us2)=(L2.start N (us1++V.non::us2)).set j (some (V.ref p.a)):=by
  unfold L2.start
  have z:us1.map some++(some V.non::us2.map some++List.replicate (N.length - (us1++V.non::us2).length) none)=(us1++V.non::us2).map some++List.replicate (N.length - (us1++V.non::us2).length) none:=by simp
  rw[← z,List.set_append_right _ _ (by rw[List.length_map,h1];exact Nat.le_refl _),List.length_map,h1,Nat.sub_self]
  simp
 have R1:=(R0.hide (j:=j) (x:=some (V.ref p.a)))
 rw[← eR,← eσ] at R1
 have jl:j<(rho0 N.length j (ds1++ds2)).length:=by rw[eR];simp;omega
 have no1:∀(i:Nat) s,(rho0 N.length j (ds1++ds2))[i]? = some s→s.own=false:=fun i s e=>by
  rw[eR] at e
  rcases get_set e with⟨_,rfl,_⟩|⟨_,e⟩
  ·rfl
  ·have:=List.mem_of_getElem? e
   rcases List.mem_append.mp this with z|z
   ·obtain⟨d,_,rfl⟩:=List.mem_map.mp z;rfl
   ·rw[(List.mem_replicate.mp z).2];rfl
 refine⟨_,hb cdv A outer s H E hr,p,H,F,rho0 N.length j (ds1++ds2),F,S0,⟨GrS.refl sm,⟨R1.here,?_,?_,fun i s b e z=>by rw[no1 i s e] at z;cases z⟩,sto,fun i s b e z=>by rw[no1 i s e] at z;cases z⟩,?_⟩
 ·rw[eσ]
  exact xM (by unfold L2.start;simp;omega)
 ·rw[eR] at jl ⊢
  exact xM (by rw[List.length_set] at jl;exact jl)
 ·unfold zcY at o
  cases e:g (rho0 N.length j (ds1++ds2)) S0 with
  | nx ρ S'=>rw[e] at o;exact fun σ H' F' fs _=>o .non H' F' fs.gr fs.st .non
  | rt d S'=>rw[e] at o;exact fun v H' F' gg st' w'=>o v H' F' gg st' w'
  | no=>rw[e] at o;exact o
def eM (n:Nat)(fn:List D→Ob→Ro D)(fs:Rho→Ob→Ro (List D)):Rho→Ob→Ro D:=b2 fs fun ds _ S=>if ds.length+1=n then fn ds S else none
def eM0 (fn:List D→Ob→Ro D):Rho→Ob→Ro D:=fun _ S=>fn [] S
section
variable {X:Cx}{cl:Nat→Addr}{kd:Kd}{q:Nat}{o e a:Expr}{es:List Expr}{fa:Rho→Ob→Ro D}{fs:Rho→Ob→Ro (List D)}{m x:Str}{pos apos p':Pos}{E:XK}{k:Nat}{f:Addr}{fd:FuncData}{ps:List Str}{fn:List D→Ob→Ro D}{n j:Nat}
theorem xe2_meth {pl:Sem Bool}(c:Cls X.K kd.C)(hm:Meth X.K kd.C m f)(nm:m∉kd.nm)(G:FnOk X.prog X.w X.K X.mg X.base (CX1 X.prog X.w) k f fd ps (spS X.K cl kd fn n 0))(hr:Room k X.A)(hb:Binds X.K fd ps [])(hx:vR (CX1 X.prog X.w) X E)(ho:PE X o (zcE q))(ha:XA2 X cl kd q (e::es) fs)
  (hst:starEach (e::es) X.env=(false,eval e X.env)::starEach es X.env) (hpl:(backTo pos (starEach es X.env)).any (·.1)=false:=by rfl)
  (ht:eval (.Call (.Attribute o m apos) (e::es) [] pos) X.env=(do
   let ov ← eval o X.env
   standAt apos.atName
   let (f,first) ← holding [ov] (getMethod ov m pl)
   callWith pos f first (backTo pos (starEach (e::es) X.env)) (backToKw pos (keywordEach [] X.env))):=by rfl) :
  XE2 X cl kd q (.Call (.Attribute o m apos) (e::es) [] pos) (eM n fn fs):=by
 intro pins s σ H Q I ⟨p,ρ,F,S,R,st,oo⟩
 obtain⟨vs,ei,_⟩:=st.fs
 refine pe_meth (pl:=pl) ho c hm G hr hb .nil hx ha hst hpl ht pins s σ H Q I ⟨.ref p.a,R.at_,p.a,p.dx,_,rfl,ei,xq nm,p,ρ,F,S,R,st,oo.bd fun ds us H1 F1 S1 g1 st1 w1 o1=>?_⟩
 have o2:OE2 X.K cl p F1 H1 (if ds.length+1=n then fn ds S1 else none) Q:=o1
 split at o2
 ·rename_i hl
  rw[List.append_nil]
  exact⟨p,F1,S1,[],us,[],ds,rfl,rfl,by rw[Dts.length w1];omega,g1.fh,st1,.nil,w1,o2⟩
 ·exact o2.elim
theorem yZ {pl:Sem Bool}(c:Cls X.K kd.C)(hm:Meth X.K kd.C m f)(nm:m∉kd.nm)(G:FnOk X.prog X.w X.K X.mg X.base (CX1 X.prog X.w) k f fd ps (spS X.K cl kd fn 1 0))(hr:Room k X.A)(hb:Binds X.K fd ps [])(hx:vR (CX1 X.prog X.w) X E)(ho:PE X o (zcE q))
  (ht:eval (.Call (.Attribute o m apos) [] [] pos) X.env=(do
   let ov ← eval o X.env
   standAt apos.atName
   let (f,first) ← holding [ov] (getMethod ov m pl)
   callWith pos f first (backTo pos (starEach [] X.env)) (backToKw pos (keywordEach [] X.env))):=by rfl) :
  XE2 X cl kd q (.Call (.Attribute o m apos) [] [] pos) (eM0 fn):=by
 intro pins s σ H Q I ⟨p,ρ,F,S,R,st,oo⟩
 obtain⟨vs,ei,_⟩:=st.fs
 refine pe_meth0 (pl:=pl) ho c hm G hr hb .nil hx ht pins s σ H Q I ⟨.ref p.a,R.at_,p.a,p.dx,_,rfl,ei,xq nm,p,F,S,[],[],[],[],rfl,rfl,rfl,R.fh,st,.nil,.nil,oo⟩
end
end L2
namespace L2
open PySem PySem.Spec PyProof.Rows
section
variable {K:PySem.W.Frag}{cl:Nat→Addr}{kd:Kd}{p:Pt kd}{q:Nat}{H F:Hp}{ρ:Rho}{σ:St}
theorem RS.set (R:RS K cl p q ρ σ H F){i:Nat}{v:V}{d:D}(ne:i≠q)(h:Dt K cl F v d):RS K cl p q (ρ.set i (.fz d)) (σ.set i (some v)) H F where
 rl:=R.rl.set h
 at_:=by rw[List.getElem?_set_ne ne];exact R.at_
 no:=by rw[List.getElem?_set_ne ne];exact R.no
 ap:=fun j s b z o e=>by
  rcases get_set z with⟨rfl,w,_⟩|⟨hj,w⟩
  ·subst w;cases o
  ·rw[List.getElem?_set_ne hj] at e;exact R.ap j s b w o e
end
def spI (K:PySem.W.Frag)(cl:Nat→Addr)(kd:Kd)(ini:List D→Option Ob)(n:Nat):Sp:=fun vs H Q _=>∃(x dx:Addr) (us:List V) (F:Hp) (ds:List D),vs=.ref x::us∧us.length+1=n∧H x=some (.ins kd.C dx [])∧F x=none∧Same F H∧Dts K cl F us ds ∧
 match ini ds with
 | some S=>∀(p:Pt kd) (H' F':Hp),p.a=x→p.dx=dx→Same F F'→Same F' H'→(∀b o,H b=some o→b≠x→H' b=some o)→(∀b o,H b=some o→o.mu=true→F b=none→F' b=none)→(∀i∈kd.N,H (p.ad i)=none)→Sto K cl F' H' p S→Q .non H'
 | none=>False
end L2
namespace L2
open PySem PySem.Spec PyProof.Rows
theorem putF_new:∀{fs:List (Str×V)}{f:Str}{v:V},(∀x∈fs,x.1≠f)→zbT f v fs=fs++[(f,v)]
 | [],_,_,_=>rfl
 | (g,w)::fs,f,v,h=>by
  show(if g=f then _ else _)=_
  rw[if_neg (h (g,w) (.head _)),putF_new fun x hx=>h x (.tail _ hx)];rfl
structure BI (K:PySem.W.Frag)(cl:Nat→Addr)(kd:Kd)(x dx:Addr)(H0 F0:Hp)(ρ:Rho)(σ:St)(H F:Hp)(vs:List V)(S:Ob)(ad:Nat→Addr):Prop where
 rl:Rl K cl F F ρ σ H F
 at_:σ[0]? = some (some (.ref x))
 ob:H x=some (.ins kd.C dx ((kd.nm.take vs.length).zip vs))
 fx:F x=none
 ff:Same F0 F
 hh:∀b o,H0 b=some o→b≠x→H b=some o
 no:∀b o,H0 b=some o→o.mu=true→F0 b=none→F b=none
 ln:vs.length=S.length
 fl:∀(i:Nat) fl,S[i]? = some fl→∃v,vs[i]? = some v∧match fl with
  | .dt d=>Dt K cl F v d
  | .ls ds=>v=.ref (ad i)∧F (ad i)=none∧H0 (ad i)=none∧∃us,H (ad i)=some (.lst us)∧Dts K cl F us ds
 inj:∀(i j:Nat) ds es,S[i]? = some (.ls ds)→S[j]? = some (.ls es)→ad i=ad j→i=j
section
variable {K:PySem.W.Frag}{cl:Nat→Addr}{kd:Kd}{x dx:Addr}{H0 F0 H F H' F':Hp}{ρ:Rho}{σ:St}{vs:List V}{S:Ob}{ad:Nat→Addr}
theorem BI.grow (b:BI K cl kd x dx H0 F0 ρ σ H F vs S ad)(hx:∃o,H0 x=some o∧o.mu=true)(g:Gr F H F' H'):BI K cl kd x dx H0 F0 ρ σ H' F' vs S ad where
 rl:=(b.rl.grow g).here
 at_:=b.at_
 ob:=g.hh _ _ b.ob
 fx:=g.no _ _ b.ob rfl b.fx
 ff:=b.ff.trans g.ff
 hh:=fun c o e n=>g.hh _ _ (b.hh c o e n)
 no:=fun c o e m w=>by
  by_cases z:c=x
  ·subst z;exact g.no _ _ b.ob rfl b.fx
  ·exact g.no c o (b.hh c o e z) m (b.no c o e m w)
 ln:=b.ln
 fl:=fun i fl e=>by
  obtain⟨v,h1,h2⟩:=b.fl i fl e
  refine⟨v,h1,?_⟩
  cases fl with
  | dt d=>exact Dt.mono h2 g.ff
  | ls ds=>obtain⟨r1,r2,r3,us,r4,r5⟩:=h2;exact⟨r1,g.no _ _ r4 rfl r2,r3,us,g.hh _ _ r4,r5.mono g.ff⟩
 inj:=b.inj
theorem BI.name (b:BI K cl kd x dx H0 F0 ρ σ H F vs S ad)(nd:kd.nm.Nodup){f:Str}(hf:kd.nm[S.length]? = some f)(v:V):zbT f v ((kd.nm.take vs.length).zip vs)=(kd.nm.take (vs++[v]).length).zip (vs++[v]):=by
 have hl:=b.ln
 have h1:S.length<kd.nm.length:=(List.getElem?_eq_some_iff.mp hf).1
 rw[putF_new]
 ·rw[List.length_append,List.length_singleton,List.take_add_one,hl,hf]
  show _=(kd.nm.take S.length++[f]).zip (vs++[v])
  rw[List.zip_append (by rw[List.length_take,hl];omega)];rfl
 ·intro y hy z
  have hm:=List.of_mem_zip (a:=y.1) (b:=y.2) hy
  obtain⟨i,hi⟩:=List.getElem?_of_mem hm.1
  rw[List.getElem?_take] at hi
  split at hi
  ·rename_i hlt
   rw[z] at hi
   have e1:=(List.getElem?_eq_some_iff.mp hi)
   have e2:=(List.getElem?_eq_some_iff.mp hf)
   obtain⟨a1,a2⟩:=e1
   obtain⟨b1,b2⟩:=e2
   exact List.pairwise_iff_getElem.mp nd i S.length a1 b1 (by omega) (a2.trans b2.symm)
  ·cases hi
theorem Rl.other (R:Rl K cl F F ρ σ H F)(no:∀(i:Nat) s,ρ[i]? = some s→s.own=false)(fh:Same F H'):Rl K cl F F ρ σ H' F where
 gr:=⟨Same.refl _,fh,fh,fun _ _ _ _ q=>q⟩
 len:=R.len
 fz:=R.fz
 ow:=fun i d e=>by have:=no i _ e;cases this
 od:=fun i d e=>by have:=no i _ e;cases this
 ap:=R.ap
theorem BI.addD (b:BI K cl kd x dx H0 F0 ρ σ H F vs S ad)(no:∀(i:Nat) s,ρ[i]? = some s→s.own=false)(nd:kd.nm.Nodup){f:Str}(hf:kd.nm[S.length]? = some f){v:V}{d:D}(q:Dt K cl F v d) :
  BI K cl kd x dx H0 F0 ρ σ (upd H x (.ins kd.C dx (zbT f v ((kd.nm.take vs.length).zip vs)))) F (vs++[v]) (S++[.dt d]) ad:=by
 rw[b.name nd hf v]
 have fh:Same F (upd H x (.ins kd.C dx ((kd.nm.take (vs++[v]).length).zip (vs++[v])))):=fun c o e=>by
  rw[zJ fun z=>by rw[z,b.fx] at e;cases e];exact b.rl.fh c o e
 refine⟨b.rl.other no fh,b.at_,zM,b.fx,b.ff,fun c o e n=>by rw[zJ n];exact b.hh c o e n,b.no,by simp[b.ln],fun i fl e=>?_,fun i j ds es e1 e2 z=>?_⟩
 ·rcases Nat.lt_or_ge i S.length with h|h
  ·rw[List.getElem?_append_left h] at e
   obtain⟨w,h1,h2⟩:=b.fl i fl e
   refine⟨w,by rw[List.getElem?_append_left (by rw[b.ln];exact h)];exact h1,?_⟩
   cases fl with
   | dt d=>exact h2
   | ls ds=>obtain⟨r1,r2,r3,us,r4,r5⟩:=h2;exact⟨r1,r2,r3,us,by rw[zJ fun z=>by rw[z,b.ob] at r4;cases r4];exact r4,r5⟩
  ·rw [List.getElem?_append_right h] at e
   cases h3:i - S.length with
   | zero =>
    rw[h3] at e
    obtain rfl:=Option.some.inj e
    exact⟨v,by rw[List.getElem?_append_right (by rw[b.ln];exact h),b.ln,h3];rfl,q⟩
   | succ k=>rw[h3] at e;simp at e
 ·have g1:S[i]? = some (.ls ds):=by
   rcases Nat.lt_or_ge i S.length with h|h
   ·rw[List.getElem?_append_left h] at e1;exact e1
   ·rw[List.getElem?_append_right h] at e1
    cases h3:i - S.length with
    | zero=>rw[h3] at e1;simp at e1
    | succ k=>rw[h3] at e1;simp at e1
  have g2:S[j]? = some (.ls es):=by
   rcases Nat.lt_or_ge j S.length with h|h
   ·rw[List.getElem?_append_left h] at e2;exact e2
   ·rw[List.getElem?_append_right h] at e2
    cases h3:j - S.length with
    | zero=>rw[h3] at e2;simp at e2
    | succ k=>rw[h3] at e2;simp at e2
  exact b.inj i j ds es g1 g2 z
theorem BI.addL (b:BI K cl kd x dx H0 F0 ρ σ H F vs S ad)(hx:∃o,H0 x=some o∧o.mu=true)(no:∀(i:Nat) s,ρ[i]? = some s→s.own=false)(nd:kd.nm.Nodup){f:Str}(hf:kd.nm[S.length]? = some f){c:Addr}{us:List V}{ds:List D}(hc:H c=none)(q:Dts K cl F us ds) :
  BI K cl kd x dx H0 F0 ρ σ (upd (upd H c (.lst us)) x (.ins kd.C dx (zbT f (.ref c) ((kd.nm.take vs.length).zip vs)))) F (vs++[.ref c]) (S++[.ls ds]) (fun i=>if i=S.length then c else ad i):=by
 rw[b.name nd hf (.ref c)]
 have cx:c≠x:=fun z=>by rw[z,b.ob] at hc;cases hc
 have c0:H0 c=none:=by
  cases e:H0 c with
  | none=>rfl
  | some o=>rw[b.hh c o e cx] at hc;cases hc
 have fc:F c=none:=b.rl.fh.free hc
 have fh:Same F (upd (upd H c (.lst us)) x (.ins kd.C dx ((kd.nm.take (vs++[V.ref c]).length).zip (vs++[V.ref c])))):=fun a o e=>by
  have z1:a≠x:=fun z=>by rw[z,b.fx] at e;cases e
  have z2:a≠c:=fun z=>by rw[z,fc] at e;cases e
  rw[zJ z1,zJ z2];exact b.rl.fh a o e
 have old:∀(i:Nat) es,S[i]? = some (.ls es)→ad i≠c:=fun i es e z=>by
  obtain⟨w,h1,h2,h3,h4,us',h5,h6⟩:=b.fl i _ e
  rw[z,hc] at h5;cases h5
 have lt:∀(i:Nat) fl,S[i]? = some fl→i<S.length:=fun i fl e=>(List.getElem?_eq_some_iff.mp e).1
 have split:∀(i:Nat) fl,(S++[Fl.ls ds])[i]? = some fl→S[i]? = some fl∨(i=S.length∧fl=.ls ds):=fun i fl e=>by
  rcases Nat.lt_or_ge i S.length with h|h
  ·rw[List.getElem?_append_left h] at e;exact .inl e
  ·rw[List.getElem?_append_right h] at e
   cases h3:i - S.length with
   | zero=>rw[h3] at e;exact .inr ⟨by omega,(Option.some.inj e).symm⟩
   | succ k=>rw[h3] at e;simp at e
 refine⟨b.rl.other no fh,b.at_,zM,b.fx,b.ff,fun a o e n=>?_,b.no,by simp[b.ln],fun i fl e=>?_,fun i j d1 d2 e1 e2 z=>?_⟩
 ·have z2:a≠c:=fun z=>by rw[z,c0] at e;cases e
  rw[zJ n,zJ z2];exact b.hh a o e n
 ·rcases split i fl e with e|⟨rfl,rfl⟩
  ·have hi:=lt i fl e
   obtain⟨w,h1,h2⟩:=b.fl i fl e
   refine⟨w,by rw[List.getElem?_append_left (by rw[b.ln];exact hi)];exact h1,?_⟩
   cases fl with
   | dt d=>exact h2
   | ls es =>
    obtain⟨r1,r2,r3,us',r4,r5⟩:=h2
    dsimp only
    rw[if_neg (show ¬i=S.length from by omega)]
    have z1:ad i≠x:=fun z=>by rw[z,b.ob] at r4;cases r4
    exact⟨r1,r2,r3,us',by rw[zJ z1,zJ (old i es e)];exact r4,r5⟩
  ·refine⟨.ref c,by rw[List.getElem?_append_right (by rw[b.ln];exact Nat.le_refl _),b.ln,Nat.sub_self];rfl,?_⟩
   dsimp only
   rw[if_pos rfl]
   exact⟨rfl,fc,c0,us,by rw[zJ cx,zM],q⟩
 ·have z:(if i=S.length then c else ad i)=(if j=S.length then c else ad j):=z
  rcases split i _ e1 with e1|⟨rfl,_⟩ <;>rcases split j _ e2 with e2|⟨rfl,_⟩
  ·rw[if_neg (show ¬i=S.length from by have:=lt i _ e1;omega),if_neg (show ¬j=S.length from by have:=lt j _ e2;omega)] at z
   exact b.inj i j d1 d2 e1 e2 z
  ·rw[if_neg (show ¬i=S.length from by have:=lt i _ e1;omega),if_pos rfl] at z
   exact absurd z (old i _ e1)
  ·rw[if_pos rfl,if_neg (show ¬j=S.length from by have:=lt j _ e2;omega)] at z
   exact absurd z.symm (old j _ e2)
  ·rfl
end
def tIn (K:PySem.W.Frag)(cl:Nat→Addr)(kd:Kd)(g:Rho→Ob→Option Ob):TS:=fun Dn σ H=>∃x dx H0 F0 ρ F vs S ad,BI K cl kd x dx H0 F0 ρ σ H F vs S ad∧(∃o,H0 x=some o∧o.mu=true)∧(∀(i:Nat) s,ρ[i]? = some s→s.own=false) ∧
 match g ρ S with|some S'=>∀H' F' vs' ad',BI K cl kd x dx H0 F0 ρ σ H' F' vs' S' ad'→Dn.nx σ H'|none=>False
def XIs (X:Cx)(cl:Nat→Addr)(kd:Kd)(st:List Stmt)(g:Rho→Ob→Option Ob):Prop:=PSs X st (tIn X.K cl kd g)
def XI1 (X:Cx)(cl:Nat→Addr)(kd:Kd)(st:Stmt)(g:Rho→Ob→Option Ob):Prop:=PS X st (tIn X.K cl kd g)
def iSeq (g h:Rho→Ob→Option Ob):Rho→Ob→Option Ob:=fun ρ S=>match g ρ S with|some S'=>h ρ S'|none=>none
def iX (f:Rho→Rs D):Rho→Ob→Option Ob:=fun ρ S=>match f ρ with | .ok _=>some S|_=>none
def iDt (k:Nat)(f:Rho→Rs D):Rho→Ob→Option Ob:=fun ρ S=>match f ρ with | .ok d=>if S.length=k then some (S++[.dt d]) else none|_=>none
def iLs (k:Nat)(f:Rho→Rs (List D)):Rho→Ob→Option Ob:=fun ρ S=>match f ρ with | .ok ds=>if S.length=k∧ds.length≤1000000 then some (S++[.ls ds]) else none|_=>none
section
variable {X:Cx}{cl:Nat→Addr}{kd:Kd}{E:XK}{st:Stmt}{rest:List Stmt}{g h:Rho→Ob→Option Ob}{e o:Expr}{f:Rho→Rs D}{fn:Str}{pos pos':Pos}
theorem xis_one (h:XI1 X cl kd st g):XIs X cl kd [st] g:=zcP h
theorem jW (h1:XI1 X cl kd st g)(h2:XIs X cl kd rest h):XIs X cl kd (st::rest) (iSeq g h):=by
 intro pins s σ H Dn I ⟨x,dx,H0,F0,ρ,F,vs,S,ad,b,hx,no,oo⟩
 refine j4 h1 h2 pins s σ H Dn I ⟨x,dx,H0,F0,ρ,F,vs,S,ad,b,hx,no,?_⟩
 unfold iSeq at oo
 cases e:g ρ S with
 | none=>rw[e] at oo;exact oo
 | some S'=>rw[e] at oo;exact fun H' F' vs' ad' b'=>⟨x,dx,H0,F0,ρ,F',vs',S',ad',b',hx,no,oo⟩
theorem xi1_expr (h:XE X cl E e f)(hs:swapsWith e none pos.line X.env=pure false:=by rfl):XI1 X cl kd (.Expr e pos) (iX f):=by
 intro pins s σ H Dn I ⟨x,dx,H0,F0,ρ,F,vs,S,ad,b,hx,no,oo⟩
 refine zcs h hs pins s σ H Dn I ⟨F,F,ρ,F,b.rl,?_⟩
 unfold iX at oo
 cases e:f ρ with
 | ok d=>rw[e] at oo;exact fun v H' F' gg w=>oo H' F' vs ad (b.grow hx gg)
 | ex n=>rw[e] at oo;exact oo.elim
 | no=>rw[e] at oo;exact oo.elim
theorem xi1_dt (k:Nat)(c:Cls X.K kd.C)(n:NoAttr X.K kd.C fn)(hi:kd.nm[k]? = some fn)(nd:kd.nm.Nodup)(h9:kd.nm.length<1000)(ho:PE X o (zcE 0))(h:XE X cl E e f)(hs:swapsWith e (some (.Attribute o fn pos')) pos.line X.env=pure false:=by rfl):XI1 X cl kd (.Assign [.Attribute o fn pos'] e pos) (iDt k f):=by
 intro pins s σ H Dn I ⟨x,dx,H0,F0,ρ,F,vs,S,ad,b,hx,no,oo⟩
 refine ps_fld ho h hs pins s σ H Dn I ⟨F,F,ρ,F,b.rl,?_⟩
 unfold iDt at oo
 cases e:f ρ with
 | ok d =>
  rw[e] at oo
  intro v H' F' gg w
  dsimp only at oo
  by_cases hk:S.length=k
  ·rw[if_pos hk] at oo
   have b1:=b.grow hx gg
   have hl:=(List.getElem?_eq_some_iff.mp hi).1
   exact⟨.ref x,b.at_,x,kd.C,dx,_,rfl,b1.ob,c,n,by rw[List.length_zip,List.length_take];have:=b.ln;omega,oo _ F' _ ad (b1.addD no nd (by rw[hk];exact hi) w)⟩
  ·rw[if_neg hk] at oo;exact oo.elim
 | ex n=>rw[e] at oo;exact oo.elim
 | no=>rw[e] at oo;exact oo.elim
theorem xi1_ls (k:Nat){es:List Expr}{fs:Rho→Rs (List D)}{pos2:Pos}(c:Cls X.K kd.C)(n:NoAttr X.K kd.C fn)(hi:kd.nm[k]? = some fn)(nd:kd.nm.Nodup)(h9:kd.nm.length<1000)(ho:PE X o (zcE 0))(h:XA X cl E es fs)(hs:swapsWith (.List es pos2) (some (.Attribute o fn pos')) pos.line X.env=pure false:=by rfl):XI1 X cl kd (.Assign [.Attribute o fn pos'] (.List es pos2) pos) (iLs k fs):=by
 intro pins s σ H Dn I ⟨x,dx,H0,F0,ρ,F,vs,S,ad,b,hx,no,oo⟩
 refine ps_fld ho (pe_lst h) hs pins s σ H Dn I ⟨F,F,ρ,F,b.rl,?_⟩
 unfold iLs at oo
 cases e:fs ρ with
 | ok ds =>
  rw[e] at oo
  intro us H' F' gg w
  dsimp only at oo
  by_cases hk:S.length=k∧ds.length≤1000000
  ·rw[if_pos hk] at oo
   refine⟨sz6 (Dts.length w▸hk.2),fun cc hc=>?_⟩
   have b1:=b.grow hx gg
   have hl:=(List.getElem?_eq_some_iff.mp hi).1
   have cx:x≠cc:=fun z=>by rw[← z,b1.ob] at hc;cases hc
   exact⟨.ref x,b.at_,x,kd.C,dx,_,rfl,by rw[zJ cx];exact b1.ob,c,n,by rw[List.length_zip,List.length_take];have:=b.ln;omega,oo _ F' _ _ (b1.addL hx no nd (by rw[hk.1];exact hi) hc w)⟩
  ·rw[if_neg hk] at oo;exact oo.elim
 | ex n=>rw[e] at oo;exact oo.elim
 | no=>rw[e] at oo;exact oo.elim
end
def runI (m:Nat)(kd:Kd)(g:Rho→Ob→Option Ob)(ds:List D):Option Ob:=match g (rho0 m 0 ds) [] with
 | some S=>if S.length=kd.nm.length∧(∀i∈kd.N,i<S.length)∧∀i<S.length,(decide (i∈kd.N)=match S[i]? with|some (.ls _)=>true|_=>false) then some S else none
 | none=>none
theorem fnI {P:Program}{w:World}{K:PySem.W.Frag}{mg:Str→Option Value}{base:Heap}{cl:Nat→Addr}{kd:Kd}{x qual:Str}{st:Stmt}{f:Addr}{fd:FuncData}{N ps:List Str}{k m n:Nat}{g:Rho→Ob→Option Ob}(Fu:Fun K x qual st f fd)(S:FnScope N ps (zu st))(hm:N.length=m)(hn:ps.length=n)
  (hb:∀(cdv:Value) (A:Around) (outer:List Env) (s:Shared) (H:Hp) (E:XK),Room k (A.deeper (envOfC qual (zu st) s.heap.objs.size f cdv))→XIs (zau (CX1 P w) P w K mg base N qual (zu st) f cdv A outer s H E) cl kd (wH st) g):FnOk P w K mg base (CX1 P w) (k+1) f fd ps (spI K cl kd (runI m kd g) n):=by
 subst hm hn
 refine Fu.okX S (fun vs H Q E h=>?_) fun cdv A outer s H vs Q E hr h=>?_
 ·obtain⟨x,dx,us,F,ds,rfl,h1,_⟩:=h
  rw[List.length_cons];exact h1
 obtain⟨x,dx,us,F,ds,rfl,h1,hx,fx,sm,q,o⟩:=h
 have R0:Rl K cl H F ((D.non::ds).map .fz++List.replicate (N.length - (D.non::ds).length) .no) (L2.start N (V.non::us)) H F:=Rl.start (N:=N) sm (.cons .non q)
 have eR:rho0 N.length 0 ds=((D.non::ds).map Sl.fz++List.replicate (N.length - (D.non::ds).length) Sl.no).set 0 .no:=rfl
 have eσ:L2.start N (V.ref x::us)=(L2.start N (V.non::us)).set 0 (some (V.ref x)):=rfl
 have R1:=(R0.hide (j:=0) (x:=some (V.ref x)))
 rw[← eR,← eσ] at R1
 have no1:∀(i:Nat) s,(rho0 N.length 0 ds)[i]? = some s→s.own=false:=fun i s e=>by
  rw[eR] at e
  rcases get_set e with⟨_,rfl,_⟩|⟨_,e⟩
  ·rfl
  ·have:=List.mem_of_getElem? e
   rcases List.mem_append.mp this with z|z
   ·obtain⟨d,_,rfl⟩:=List.mem_map.mp z;rfl
   ·rw[(List.mem_replicate.mp z).2];rfl
 refine⟨_,hb cdv A outer s H E hr,x,dx,H,F,rho0 N.length 0 ds,F,[],[],fun _=>0,⟨R1.here,by rw[eσ];exact xM (by unfold L2.start;simp),by rw[hx];simp,fx,Same.refl _,fun b o e _=>e,fun _ _ _ _ z=>z,rfl,fun i fl e=>by simp at e,fun i j ds es e=>by simp at e⟩,⟨_,hx,rfl⟩,no1,?_⟩
 unfold runI at o
 cases e:g (rho0 N.length 0 ds) [] with
 | none=>rw[e] at o;exact o
 | some S' =>
  rw[e] at o
  dsimp only at o
  intro H' F' vs' ad' b
  by_cases hc:S'.length=kd.nm.length∧(∀i∈kd.N,i<S'.length)∧∀i<S'.length,(decide (i∈kd.N)=match S'[i]? with|some (.ls _)=>true|_=>false)
  ·rw [if_pos hc] at o
   have isN:∀(i:Nat) es,S'[i]? = some (.ls es)→i∈kd.N:=fun i es e=>by
    have:=hc.2.2 i (List.getElem?_eq_some_iff.mp e).1
    rw[e] at this
    exact of_decide_eq_true this
   have hN:=hc.2.1
   have ofN:∀i∈kd.N,∃es,S'[i]? = some (.ls es):=fun i hi=>by
    have:=hc.2.2 i (hN i hi)
    rw[decide_eq_true hi] at this
    cases z:S'[i]? with
    | none=>rw[z] at this;cases this
    | some fl=>cases fl with
     | dt d=>rw[z] at this;cases this
     | ls es=>exact⟨es,rfl⟩
   refine o ⟨x,dx,ad'⟩ H' F' rfl rfl b.ff b.rl.fh b.hh b.no (fun i hi=>?_) ⟨⟨vs',?_,b.ln,fun i fl e=>?_⟩,b.fx,hc.1.symm,ofN,fun i hi j hj z=>?_⟩
   ·obtain⟨es,e⟩:=ofN i hi
    obtain⟨v,_,_,_,h3,_⟩:=b.fl i _ e
    exact h3
   ·have:=b.ob
    rw[b.ln,hc.1,List.take_length] at this
    exact this
   ·obtain⟨v,h1,h2⟩:=b.fl i fl e
    refine⟨v,h1,?_⟩
    cases fl with
    | dt d=>exact h2
    | ls es=>obtain⟨r1,r2,r3,us',r4,r5⟩:=h2;exact⟨isN i es e,r1,r2,us',r4,r5⟩
   ·obtain⟨es,e⟩:=ofN i hi
    obtain⟨es',e'⟩:=ofN j hj
    exact b.inj i j es es' e e' z
  ·rw[if_neg hc] at o;exact o.elim
structure Md (K:PySem.W.Frag)(C:Addr)(x qual:Str)(st:Stmt)(ps:List Str) where
 f:Addr
 fd:FuncData
 fn:Fun K x qual st f fd
 me:Meth K C x f
 bd:Binds K fd ps []
structure Cd (K:PySem.W.Frag)(mg:Str→Option Value)(x:Str) where
 C:Addr
 cl:Cls K C
 mgx:mg x=some (.ref C)
 mkr:PySem.W.makesIn K C=true
 kp:PySem.W.keepIn K (.ref C)=true
theorem Cd.mkd {K:PySem.W.Frag}{mg:Str→Option Value}{x qual:Str}{st:Stmt}{ps:List Str}(c:Cd K mg x)(m:Md K c.C "__init__" qual st ps):Mk K c.C m.f:=⟨c.mkr,m.me.at_,m.me.fn,c.kp⟩
end L2
namespace L2
open PySem PySem.Spec PyProof.Rows
end L2
namespace L2
open PySem PySem.Spec PyProof.Rows
end L2
namespace L2
open PySem PySem.Spec PyProof.Rows
def cM {kd:Kd}(ps:List (Pt kd))(b:Addr):Prop:=∃p∈ps,p.cell b
structure GrC (c:Addr→Prop)(F H F' H':Hp):Prop where
 ff:Same F F'
 hh:∀b o,H b=some o→¬c b→H' b=some o
 fh:Same F' H'
 no:∀b o,H b=some o→o.mu=true→F b=none→F' b=none
 mm:∀b o,c b→H b=some o→o.mu=true→∃o',H' b=some o'∧o'.mu=true
structure StM (K:PySem.W.Frag)(cl:Nat→Addr){kd:Kd}(F H:Hp)(ps:List (Pt kd))(Ss:List Ob):Prop where
 len:ps.length=Ss.length
 each:∀(i:Nat) p S,ps[i]? = some p→Ss[i]? = some S→Sto K cl F H p S
 apart:∀(i j:Nat) p p' b,ps[i]? = some p→ps[j]? = some p'→p.cell b→p'.cell b→i=j
inductive Hd where
 | o (j:Nat)|l (js:List Nat)
deriving DecidableEq
def Hold (K:PySem.W.Frag){kd:Kd}(F:Hp)(ps:List (Pt kd))(v:V):Hd→Prop
 | .o j=>∃p,ps[j]? = some p∧v=.ref p.a
 | .l js=>∃c vs,v=.ref c∧SqL K F c vs∧vs.length=js.length∧∀(k:Nat) w,vs[k]? = some w→∃(j:Nat) (p:Pt kd),js[k]? = some j∧ps[j]? = some p∧w=.ref p.a
theorem Hold.grow {K:PySem.W.Frag}{kd:Kd}{F F':Hp}{ps ps':List (Pt kd)}{v:V}{h:Hd}(e:Hold K F ps v h)(pre:ps <+: ps')(ff:Same F F'):Hold K F' ps' v h:=by
 have up:∀(j:Nat) (p:Pt kd),ps[j]? = some p→ps'[j]? = some p:=fun j p h=>by
  obtain⟨t,rfl⟩:=pre
  rw[List.getElem?_append_left (List.getElem?_eq_some_iff.mp h).1];exact h
 cases h with
 | o j=>obtain⟨p,h1,h2⟩:=e;exact⟨p,up j p h1,h2⟩
 | l js=>obtain⟨c,vs,h1,h2,h3,h4⟩:=e;exact⟨c,vs,h1,ff.seq h2,h3,fun k w hw=>let ⟨j,p,a1,a2,a3⟩:=h4 k w hw;⟨j,p,a1,up j p a2,a3⟩⟩
structure RM (K:PySem.W.Frag)(cl:Nat→Addr){kd:Kd}(qs:List (Nat×Hd))(ps:List (Pt kd))(ρ:Rho)(σ:St)(H F:Hp):Prop where
 rl:Rl K cl F F ρ σ H F
 at_:∀x∈qs,∃v,σ[x.1]? = some (some v)∧Hold K F ps v x.2
 no:∀x∈qs,ρ[x.1]? = some .no
 ap:∀(i:Nat) s b,ρ[i]? = some s→s.own=true→σ[i]? = some (some (.ref b))→¬cM ps b
section
variable {K:PySem.W.Frag}{cl:Nat→Addr}{kd:Kd}{F H F' H':Hp}{c c':Addr→Prop}{p:Pt kd}{ps ps':List (Pt kd)}{S S':Ob}{Ss:List Ob}{qs:List (Nat×Hd)}{ρ:Rho}{σ:St}
theorem GrS.grC (g:GrS p F H F' H'):GrC p.cell F H F' H':=⟨g.ff,g.hh,g.fh,g.no,g.mm⟩
theorem Gr.grC (g:Gr F H F' H'):GrC c F H F' H':=⟨g.ff,fun b o e _=>g.hh b o e,g.fh,g.no,fun b o _ e m=>⟨o,g.hh b o e,m⟩⟩
theorem GrC.mono (g:GrC c F H F' H')(h:∀b,c b→c' b):GrC c' F H F' H' where
 ff:=g.ff
 hh:=fun b o e n=>g.hh b o e fun z=>n (h b z)
 fh:=g.fh
 no:=g.no
 mm:=fun b o hc e m=>by
  by_cases z:c b
  ·exact g.mm b o z e m
  ·exact⟨o,g.hh b o e z,m⟩
theorem GrC.trans {F1 H1 F2 H2 F3 H3:Hp}(a:GrC c F1 H1 F2 H2)(b:GrC c F2 H2 F3 H3):GrC c F1 H1 F3 H3 where
 ff:=a.ff.trans b.ff
 hh:=fun x o e n=>b.hh x o (a.hh x o e n) n
 fh:=b.fh
 no := fun x o e m q=>by
  by_cases hc:c x
  ·obtain⟨o',e',m'⟩:=a.mm x o hc e m
   exact b.no x o' e' m' (a.no x o e m q)
  ·exact b.no x o (a.hh x o e hc) m (a.no x o e m q)
 mm:=fun x o hc e m=>by
  obtain⟨o',e',m'⟩:=a.mm x o hc e m
  exact b.mm x o' hc e' m'
theorem Sto.keep (s:Sto K cl F H p S)(ff:Same F F')(hh:∀b o,p.cell b→H b=some o→H' b=some o)(no:∀b o,H b=some o→o.mu=true→F b=none→F' b=none):Sto K cl F' H' p S:=by
 obtain⟨vs,e,l,k⟩:=s.fs
 refine⟨⟨vs,hh _ _ (.inl rfl) e,l,fun i fl h=>?_⟩,no _ _ e rfl s.fa,s.nl,s.lt,s.inj⟩
 obtain⟨v,hv,r⟩:=k i fl h
 refine⟨v,hv,?_⟩
 cases fl with
 | dt d=>exact Dt.mono r ff
 | ls ds =>
  obtain⟨h1,h2,h3,us,h4,h5⟩:=r
  exact⟨h1,h2,no _ _ h4 rfl h3,us,hh _ _ (.inr ⟨i,h1,rfl⟩) h4,h5.mono ff⟩
theorem StM.grow (s:StM K cl F H ps Ss)(g:Gr F H F' H'):StM K cl F' H' ps Ss:=⟨s.len,fun i p S h1 h2=>(s.each i p S h1 h2).grow g,s.apart⟩
theorem StM.one (s:StM K cl F H ps Ss){i:Nat}(hp:ps[i]? = some p)(g:GrS p F H F' H')(st:Sto K cl F' H' p S'):StM K cl F' H' ps (Ss.set i S'):=by
 have il:i<Ss.length:=by rw[← s.len];exact(List.getElem?_eq_some_iff.mp hp).1
 refine⟨by rw[List.length_set];exact s.len,fun j p' T h1 h2=>?_,s.apart⟩
 by_cases z:i=j
 ·subst z
  rw[hp] at h1
  obtain rfl:=Option.some.inj h1
  rw[xM il] at h2
  obtain rfl:=Option.some.inj h2
  exact st
 ·rw[List.getElem?_set_ne z] at h2
  exact(s.each j p' T h1 h2).keep g.ff (fun b o hc e=>g.hh b o e fun w=>z (s.apart i j p p' b hp h1 w hc)) g.no
theorem StM.new (s:StM K cl F H ps Ss)(ff:Same F F')(hh:∀b o,H b=some o→H' b=some o)(no:∀b o,H b=some o→o.mu=true→F b=none→F' b=none)(fr:∀b,p.cell b→H b=none)(st:Sto K cl F' H' p S'):StM K cl F' H' (ps++[p]) (Ss++[S']):=by
 have old:∀(i:Nat) q b,ps[i]? = some q→q.cell b→H b≠none:=fun i q b h1 hc z=>by
  obtain⟨T,hT⟩:∃T,Ss[i]? = some T:=⟨_,List.getElem?_eq_getElem (by rw[← s.len];exact(List.getElem?_eq_some_iff.mp h1).1)⟩
  obtain⟨o,e,_⟩:=(s.each i q T h1 hT).cellH hc
  rw[z] at e;cases e
 have spl:∀(i:Nat) q,(ps++[p])[i]? = some q→ps[i]? = some q∨(i=ps.length∧q=p):=fun i q e=>by
  rcases Nat.lt_or_ge i ps.length with h|h
  ·rw[List.getElem?_append_left h] at e;exact .inl e
  ·rw[List.getElem?_append_right h] at e
   cases h3:i - ps.length with
   | zero=>rw[h3] at e;exact .inr ⟨by omega,(Option.some.inj e).symm⟩
   | succ k=>rw[h3] at e;simp at e
 refine⟨by simp[s.len],fun i q T h1 h2=>?_,fun i j q q' b h1 h2 c1 c2=>?_⟩
 ·rcases spl i q h1 with h1|⟨rfl,rfl⟩
  ·rw[List.getElem?_append_left (by rw[← s.len];exact(List.getElem?_eq_some_iff.mp h1).1)] at h2
   exact(s.each i q T h1 h2).keep ff (fun b o _ e=>hh b o e) no
  ·rw[s.len,List.getElem?_append_right (Nat.le_refl _),Nat.sub_self] at h2
   obtain rfl:=Option.some.inj h2
   exact st
 ·rcases spl i q h1 with g1|⟨i1,q1⟩
  ·rcases spl j q' h2 with g2|⟨i2,q2⟩
   ·exact s.apart i j q q' b g1 g2 c1 c2
   ·exact absurd (fr b (q2▸c2)) (old i q b g1 c1)
  ·rcases spl j q' h2 with g2|⟨i2,q2⟩
   ·exact absurd (fr b (q1▸c1)) (old j q' b g2 c2)
   ·rw[i1,i2]
theorem RM.one (R:RM K cl qs ps ρ σ H F){q j:Nat}(hq:(q,.o j)∈qs)(hp:ps[j]? = some p):RS K cl p q ρ σ H F:=by
 obtain⟨v,h2,p',h1,hv⟩:=R.at_ (q,.o j) hq
 have e:p'=p:=by rw[hp] at h1;exact(Option.some.inj h1).symm
 subst e
 subst hv
 exact⟨R.rl,h2,R.no (q,.o j) hq,fun i s b e1 e2 e3 w=>R.ap i s b e1 e2 e3 ⟨p',List.mem_of_getElem? hp,w⟩⟩
theorem RM.grow (R:RM K cl qs ps ρ σ H F)(pre:ps <+: ps')(g:GrC (cM ps') F H F' H')(fr:∀b,cM ps' b→cM ps b∨H b=none):RM K cl qs ps' ρ σ H' F':=by
 have nc:∀(i:Nat) s b o,ρ[i]? = some s→s.own=true→σ[i]? = some (some (.ref b))→H b=some o→¬cM ps' b:=fun i s b o e1 e2 e3 e4 w=>(fr b w).elim (R.ap i s b e1 e2 e3) fun z=>by rw[z] at e4;cases e4
 refine⟨⟨⟨Same.refl _,g.fh,g.fh,fun _ _ _ _ q=>q⟩,R.rl.len,fun i d e=>let ⟨v,h1,h2⟩:=R.rl.fz i d e;⟨v,h1,h2.mono g.ff⟩,fun i d e=>?_,fun i d e=>?_,R.rl.ap⟩,fun x hx=>?_,R.no,fun i s b e1 e2 e3=>?_⟩
 ·obtain⟨a,vs,h1,h2,h3,h4,h5⟩:=R.rl.ow i d e
  have n:=g.no _ _ h2 rfl h3
  exact⟨a,vs,h1,g.hh _ _ h2 (nc i _ a _ e rfl h1 h2),n,n,h5.mono g.ff⟩
 ·obtain⟨a,vs,h1,h2,h3,h4,h5⟩:=R.rl.od i d e
  have n:=g.no _ _ h2 rfl h3
  exact⟨a,vs,h1,g.hh _ _ h2 (nc i _ a _ e rfl h1 h2),n,n,h5.mono g.ff⟩
 ·obtain⟨v,h1,h2⟩:=R.at_ x hx
  exact⟨v,h1,h2.grow pre g.ff⟩
 ·cases s with
  | ow ds =>
   obtain⟨a,vs,h1,h2,_⟩:=R.rl.ow i ds e1
   rw[e3] at h1
   injection h1 with h1;injection h1 with h1;injection h1 with h1
   exact nc i _ b _ e1 rfl e3 (by rw[h1];exact h2)
  | od ds =>
   obtain⟨a,vs,h1,h2,_⟩:=R.rl.od i ds e1
   rw[e3] at h1
   injection h1 with h1;injection h1 with h1;injection h1 with h1
   exact nc i _ b _ e1 rfl e3 (by rw[h1];exact h2)
  | _=>cases e2
end
end L2
namespace L2
open PySem PySem.Spec PyProof.Rows
structure Ex {kd:Kd}(ps ps':List (Pt kd))(F H F' H':Hp):Prop where
 pre:ps <+: ps'
 gr:GrC (cM ps') F H F' H'
 fr:∀b,cM ps' b→cM ps b∨H b=none
abbrev Rm (α:Type):=Option (α×List Ob)
def OM {α β:Type}(W:Hp→β→α→Prop)(K:PySem.W.Frag)(cl:Nat→Addr){kd:Kd}(ps:List (Pt kd))(F H:Hp)(r:Rm α)(Q:β→Hp→Prop):Prop :=
 match r with
 | some (d,Ss)=>∀v H' F' ps',Ex ps ps' F H F' H'→StM K cl F' H' ps' Ss→W F' v d→Q v H'
 | none=>False
abbrev OEm (K:PySem.W.Frag)(cl:Nat→Addr){kd:Kd}(ps:List (Pt kd))(F H:Hp)(r:Rm D)(Q:VK):Prop:=OM (Dt K cl) K cl ps F H r Q
abbrev OBm (K:PySem.W.Frag)(cl:Nat→Addr){kd:Kd}(ps:List (Pt kd))(F H:Hp)(r:Rm Bool)(Q:Bool→Hp→Prop):Prop:=OM (fun _ (v b:Bool)=>v=b) K cl ps F H r Q
abbrev OAm (K:PySem.W.Frag)(cl:Nat→Addr){kd:Kd}(ps:List (Pt kd))(F H:Hp)(r:Rm (List D))(Q:List V→Hp→Prop):Prop:=OM (Dts K cl) K cl ps F H r Q
def tEm (K:PySem.W.Frag)(cl:Nat→Addr)(kd:Kd)(qs:List (Nat×Hd))(f:Rho→List Ob→Rm D):TE:=fun σ H Q=>∃(p:List (Pt kd)) (ρ:Rho) (F:Hp) (S:List Ob),RM K cl qs p ρ σ H F∧StM K cl F H p S∧OEm K cl p F H (f ρ S) Q
def tAm (K:PySem.W.Frag)(cl:Nat→Addr)(kd:Kd)(qs:List (Nat×Hd))(f:Rho→List Ob→Rm (List D)):TA:=fun σ H Q=>∃(p:List (Pt kd)) (ρ:Rho) (F:Hp) (S:List Ob),RM K cl qs p ρ σ H F∧StM K cl F H p S∧OAm K cl p F H (f ρ S) Q
def tBm (K:PySem.W.Frag)(cl:Nat→Addr)(kd:Kd)(qs:List (Nat×Hd))(f:Rho→List Ob→Rm Bool):TT:=fun σ H Q=>∃(p:List (Pt kd)) (ρ:Rho) (F:Hp) (S:List Ob),RM K cl qs p ρ σ H F∧StM K cl F H p S∧OBm K cl p F H (f ρ S) Q
def XEm (X:Cx)(cl:Nat→Addr)(kd:Kd)(qs:List (Nat×Hd))(e:Expr)(f:Rho→List Ob→Rm D):Prop:=PE X e (tEm X.K cl kd qs f)
def XAm (X:Cx)(cl:Nat→Addr)(kd:Kd)(qs:List (Nat×Hd))(es:List Expr)(f:Rho→List Ob→Rm (List D)):Prop:=PA X es (tAm X.K cl kd qs f)
def XTm (X:Cx)(cl:Nat→Addr)(kd:Kd)(qs:List (Nat×Hd))(e:Expr)(f:Rho→List Ob→Rm Bool):Prop:=PT X e (tBm X.K cl kd qs f)
def XWm (X:Cx)(cl:Nat→Addr)(kd:Kd)(qs:List (Nat×Hd))(e:Expr)(f:Rho→List Ob→Rm Bool):Prop:=PW X e (tBm X.K cl kd qs f)
def upM {α:Type}(f:Rho→Rs α):Rho→List Ob→Rm α:=fun ρ S=>match f ρ with | .ok a=>some (a,S)|_=>none
def oneM {α:Type}(j:Nat)(f:Rho→Ob→Ro α):Rho→List Ob→Rm α:=fun ρ Ss=>match Ss[j]? with|some S=>(match f ρ S with|some (a,S')=>some (a,Ss.set j S')|none=>none)|none=>none
def m2 {α β:Type}(f:Rho→List Ob→Rm α)(g:α→Rho→List Ob→Rm β):Rho→List Ob→Rm β:=fun ρ S=>match f ρ S with|some (a,S')=>g a ρ S'|none=>none
section
variable {K:PySem.W.Frag}{cl:Nat→Addr}{kd:Kd}{p p1 p2:List (Pt kd)}{F H F1 H1 F2 H2:Hp}{ρ:Rho}{S:List Ob}{qs:List (Nat×Hd)}{σ:St}
theorem cM.pre {b:Addr}(h:p <+: p1)(c:cM p b):cM p1 b:=let ⟨x,hx,hc⟩:=c;⟨x,h.subset hx,hc⟩
theorem Ex.of (g:Gr F H F1 H1):Ex p p F H F1 H1:=⟨List.prefix_refl _,g.grC,fun b h=>.inl h⟩
theorem Ex.one {x:Pt kd}(hx:x∈p)(g:GrS x F H F1 H1):Ex p p F H F1 H1:=⟨List.prefix_refl _,g.grC.mono fun b h=>⟨x,hx,h⟩,fun b h=>.inl h⟩
theorem Ex.trans (a:Ex p p1 F H F1 H1)(b:Ex p1 p2 F1 H1 F2 H2):Ex p p2 F H F2 H2 where
 pre:=a.pre.trans b.pre
 gr:=(a.gr.mono fun x h=>cM.pre b.pre h).trans b.gr
 fr := fun x h=>by
  by_cases z:cM p1 x
  ·exact a.fr x z
  ·rcases b.fr x h with w|w
   ·exact absurd w z
   ·refine .inr ?_
    cases e:H x with
    | none=>rfl
    | some o=>rw[a.gr.hh x o e z] at w;cases w
theorem Ex.fh (a:Ex p p1 F H F1 H1):Same F1 H1:=a.gr.fh
theorem Ex.ff (a:Ex p p1 F H F1 H1):Same F F1:=a.gr.ff
theorem RM.ex (R:RM K cl qs p ρ σ H F)(x:Ex p p1 F H F1 H1):RM K cl qs p1 ρ σ H1 F1:=R.grow x.pre x.gr x.fr
theorem RM.fh (R:RM K cl qs p ρ σ H F):Same F H:=R.rl.fh
theorem OM.bd {α β α' β':Type}{W:Hp→β→α→Prop}{W':Hp→β'→α'→Prop}{f:Rho→List Ob→Rm α}{k:α→Rho→List Ob→Rm α'}{Q:β'→Hp→Prop}{P:β→Hp→Prop}(h:OM W' K cl p F H (m2 f k ρ S) Q)
  (kk:∀a v H1 F1 p1 S1,Ex p p1 F H F1 H1→StM K cl F1 H1 p1 S1→W F1 v a→OM W' K cl p1 F1 H1 (k a ρ S1) Q→P v H1):OM W K cl p F H (f ρ S) P:=by
 unfold m2 at h
 cases e:f ρ S with
 | none=>rw[e] at h;exact h
 | some a =>
  obtain⟨a,S1⟩:=a
  rw[e] at h
  exact fun v H1 F1 p1 g st w=>kk a v H1 F1 p1 S1 g st w (by
   have h':OM W' K cl p F H (k a ρ S1) Q:=h
   show OM W' K cl p1 F1 H1 (k a ρ S1) Q
   cases e2:k a ρ S1 with
   | none=>rw[e2] at h';exact h'
   | some r =>
    obtain⟨r,S2⟩:=r
    rw[e2] at h'
    exact fun v' H2 F2 p2 g2 st2 w2=>h' v' H2 F2 p2 (g.trans g2) st2 w2)
theorem OM.here {α β:Type}{W:Hp→β→α→Prop}{d:α}{v:β}{Q:β→Hp→Prop}(h:OM W K cl p F H (some (d,S)) Q)(fh:Same F H)(st:StM K cl F H p S)(w:W F v d):Q v H:=h v H F p (Ex.of (Gr.refl fh)) st w
theorem OM.end_ {α β:Type}{W:Hp→β→α→Prop}{o:Option α}{Q:β→Hp→Prop}(h:OM W K cl p F H (o.map fun d=>(d,S)) Q)(st:StM K cl F H p S):∃d,o=some d∧∀v H' F',Gr F H F' H'→W F' v d→Q v H':=by
 cases o with
 | none=>exact h.elim
 | some d=>exact⟨d,rfl,fun v H' F' g w=>h v H' F' p (Ex.of g) (st.grow g) w⟩
end
section
variable {X:Cx}{cl:Nat→Addr}{E:XK}{kd:Kd}{qs:List (Nat×Hd)}{q j:Nat}
theorem yQ {e:Expr}{f:Rho→Rs D}(h:XE X cl E e f):XEm X cl kd qs e (upM f):=by
 intro pins s σ H Q I ⟨p,ρ,F,S,R,st,o⟩
 refine h pins s σ H Q I ⟨F,F,ρ,F,R.rl,?_⟩
 unfold upM at o
 cases e:f ρ with
 | ok d=>rw[e] at o;exact fun v H' F' g q=>o v H' F' p (Ex.of g) (st.grow g) q
 | ex n=>rw[e] at o;exact o.elim
 | no=>rw[e] at o;exact o.elim
theorem xam_up {es:List Expr}{f:Rho→Rs (List D)}(h:XA X cl E es f):XAm X cl kd qs es (upM f):=by
 intro pos pins s σ H Q I ⟨p,ρ,F,S,R,st,o⟩
 refine h pos pins s σ H Q I ⟨F,F,ρ,F,R.rl,?_⟩
 unfold upM at o
 cases e:f ρ with
 | ok d=>rw[e] at o;exact fun v H' F' g q=>o v H' F' p (Ex.of g) (st.grow g) q
 | ex n=>rw[e] at o;exact o.elim
 | no=>rw[e] at o;exact o.elim
theorem xtm_up {e:Expr}{f:Rho→Rs Bool}(h:XT X cl E e f):XTm X cl kd qs e (upM f):=by
 intro pins s σ H Q I ⟨p,ρ,F,S,R,st,o⟩
 refine h pins s σ H Q I ⟨F,F,ρ,F,R.rl,?_⟩
 unfold upM at o
 cases e:f ρ with
 | ok d=>rw[e] at o;exact fun H' F' g=>o _ H' F' p (Ex.of g) (st.grow g) rfl
 | ex n=>rw[e] at o;exact o.elim
 | no=>rw[e] at o;exact o.elim
theorem zck {e:Expr}{f:Rho→Ob→Ro D}(hq:(q,.o j)∈qs)(h:XE2 X cl kd q e f):XEm X cl kd qs e (oneM j f):=by
 intro pins s σ H Q I ⟨p,ρ,F,S,R,st,o⟩
 obtain⟨_,_,x,hx,_⟩:=R.at_ (q,.o j) hq
 unfold oneM at o
 cases e1:S[j]? with
 | none=>rw[e1] at o;exact o.elim
 | some T =>
  rw[e1] at o
  refine h pins s σ H Q I ⟨x,ρ,F,T,R.one hq hx,st.each j x T hx e1,?_⟩
  dsimp only at o
  cases e2:f ρ T with
  | none=>rw[e2] at o;exact o
  | some r =>
   obtain⟨d,T'⟩:=r
   rw[e2] at o
   exact fun v H' F' g st' w=>o v H' F' p (Ex.one (List.mem_of_getElem? hx) g) (st.one hx g st') w
end
def e2M (g:D→D→Option D)(fa fb:Rho→List Ob→Rm D):Rho→List Ob→Rm D:=m2 fa fun a=>m2 fb fun b _ S=>(g a b).map fun d=>(d,S)
def nM:Rho→List Ob→Rm (List D):=fun _ S=>some ([],S)
def bBM (fa:Rho→List Ob→Rm D):Rho→List Ob→Rm Bool:=m2 fa fun a _ S=>(truO a).map fun b=>(b,S)
def bOM (ft fu:Rho→List Ob→Rm Bool):Rho→List Ob→Rm Bool:=m2 ft fun b ρ S=>if b=true then some (true,S) else fu ρ S
def eAndM (fa fb:Rho→List Ob→Rm D):Rho→List Ob→Rm D:=m2 (bBM fa) fun b ρ S=>if b=true then fb ρ S else some (.bl false,S)
section
variable {X:Cx}{cl:Nat→Addr}{kd:Kd}{qs:List (Nat×Hd)}{a b:Expr}{fa fb:Rho→List Ob→Rm D}{pos:Pos}
theorem xem_op {op:Operator}{r:R2}{g:D→D→Option D}(ho:OpR X (binaryOp op) r)(hg:Op2 X.K cl r g)(ha:XEm X cl kd qs a fa)(hb:XEm X cl kd qs b fb):XEm X cl kd qs (.BinOp a op b pos) (e2M g fa fb):=by
 intro pins s σ H Q I ⟨p,ρ,F,S,R,st,o⟩
 refine pe_op ho ha hb pins s σ H Q I ⟨p,ρ,F,S,R,st,o.bd fun d v H1 F1 p1 S1 g1 st1 w1 o1=>?_⟩
 refine⟨p1,ρ,F1,S1,R.ex g1,st1,o1.bd fun d2 v2 H2 F2 p2 S2 g2 st2 w2 o2=>?_⟩
 obtain⟨z,hz,k⟩:=o2.end_ st2
 exact hg F2 H2 v v2 d d2 z _ g2.fh (Dt.mono w1 g2.ff) w2 hz k
theorem xem_cmp {op:CmpOp}{r:R2}{g:D→D→Option D}(ho:OpR X (compareOp op) r)(hg:Op2 X.K cl r g)(ha:XEm X cl kd qs a fa)(hb:XEm X cl kd qs b fb)(hm:behindInMarks op b=false):XEm X cl kd qs (.Compare a [op] [b] pos) (e2M g fa fb):=by
 intro pins s σ H Q I ⟨p,ρ,F,S,R,st,o⟩
 refine pe_cmpR ho ha hb hm pins s σ H Q I ⟨p,ρ,F,S,R,st,o.bd fun d v H1 F1 p1 S1 g1 st1 w1 o1=>?_⟩
 refine⟨p1,ρ,F1,S1,R.ex g1,st1,o1.bd fun d2 v2 H2 F2 p2 S2 g2 st2 w2 o2=>?_⟩
 obtain⟨z,hz,k⟩:=o2.end_ st2
 exact hg F2 H2 v v2 d d2 z _ g2.fh (Dt.mono w1 g2.ff) w2 hz k
theorem OM.bBM {p:List (Pt kd)}{F H:Hp}{ρ:Rho}{S:List Ob}{Q:Bool→Hp→Prop}(o:OBm X.K cl p F H (bBM fa ρ S) Q):OEm X.K cl p F H (fa ρ S) fun v H1=>∃k,v=.bl k∧Q k H1:=o.bd fun d v H1 F1 p1 S1 g1 st1 w1 o1=>by
 obtain⟨z,hz,k⟩:=o1.end_ st1
 cases w1 <;>simp[truO] at hz
 subst hz
 exact⟨_,rfl,k _ H1 F1 (Gr.refl g1.fh) rfl⟩
theorem qM {op:CmpOp}{r:R2}{g:D→D→Option D}(ho:OpR X (compareOp op) r)(hg:Op2 X.K cl r g)(ha:XEm X cl kd qs a fa)(hb:XEm X cl kd qs b fb)(hm:behindInMarks op b=false):XTm X cl kd qs (.Compare a [op] [b] pos) (bBM (e2M g fa fb)):=by
 intro pins s σ H Q I ⟨p,ρ,F,S,R,st,o⟩
 refine pt_cmpR ho ha hb hm pins s σ H Q I ⟨p,ρ,F,S,R,st,(OM.bBM o).bd fun d v H1 F1 p1 S1 g1 st1 w1 o1=>?_⟩
 refine⟨p1,ρ,F1,S1,R.ex g1,st1,o1.bd fun d2 v2 H2 F2 p2 S2 g2 st2 w2 o2=>?_⟩
 obtain⟨z,hz,k⟩:=o2.end_ st2
 exact hg F2 H2 v v2 d d2 z _ g2.fh (Dt.mono w1 g2.ff) w2 hz k
theorem xwm_or1 {ft:Rho→List Ob→Rm Bool}(h:XTm X cl kd qs a ft):XWm X cl kd qs (.BoolOp .Or [a] pos) ft:=pw_or1 h
theorem xwm_or {rest:List Expr}{ft fu:Rho→List Ob→Rm Bool}(h:XTm X cl kd qs a ft)(k:XWm X cl kd qs (.BoolOp .Or (b::rest) pos) fu):XWm X cl kd qs (.BoolOp .Or (a::b::rest) pos) (bOM ft fu):=by
 intro wh pins s σ H Q I ⟨p,ρ,F,S,R,st,o⟩
 refine pw_or h k wh pins s σ H Q I ⟨p,ρ,F,S,R,st,o.bd fun c v H1 F1 p1 S1 g1 st1 w1 o1=>?_⟩
 subst w1
 cases v with
 | true=>exact o1.here g1.fh st1 rfl
 | false=>exact⟨p1,ρ,F1,S1,R.ex g1,st1,o1⟩
theorem XWm.xt {e:Expr}{ft:Rho→List Ob→Rm Bool}(h:XWm X cl kd qs e ft):XTm X cl kd qs e ft:=PW.pt h
theorem xem_one {op}(h:XEm X cl kd qs a fa):XEm X cl kd qs (.BoolOp op [a] pos) fa:=pe_one h
theorem xem_and {rest:List Expr}(ha:XEm X cl kd qs a fa)(hb:XEm X cl kd qs (.BoolOp .And (b::rest) pos) fb):XEm X cl kd qs (.BoolOp .And (a::b::rest) pos) (eAndM fa fb):=by
 intro pins s σ H Q I ⟨p,ρ,F,S,R,st,o⟩
 have o':OBm X.K cl p F H (bBM fa ρ S) fun v H1=>if v=true then tEm X.K cl kd qs fb σ H1 Q else Q (.bl false) H1:=o.bd fun c v H1 F1 p1 S1 g1 st1 w1 o1=>by
  subst w1
  cases v with
  | true=>exact⟨p1,ρ,F1,S1,R.ex g1,st1,o1⟩
  | false=>exact o1.here g1.fh st1 (.bl _)
 refine pe_and ha hb pins s σ H Q I ⟨p,ρ,F,S,R,st,?_⟩
 have o2:=OM.bBM o'
 cases e:fa ρ S with
 | none=>rw[e] at o2;exact o2
 | some r =>
  obtain⟨d,S1⟩:=r
  rw[e] at o2
  intro v H1 F1 p1 g1 st1 w1
  obtain⟨k,rfl,z⟩:=o2 v H1 F1 p1 g1 st1 w1
  exact⟨k,rfl,by cases k <;>exact z⟩
end
end L2
namespace L2
open PySem PySem.Spec PyProof.Rows
inductive Om where
 | nx (ρ:Rho) (S:List Ob)|rt (d:D) (S:List Ob)|no
structure FM (K:PySem.W.Frag)(cl:Nat→Addr){kd:Kd}(qs:List (Nat×Hd))(p0 p:List (Pt kd))(H0 F0:Hp)(ρ:Rho)(S:List Ob)(σ:St)(H F:Hp):Prop where
 ex:Ex p0 p F0 H0 F H
 rs:RM K cl qs p ρ σ H F
 st:StM K cl F H p S
 nw:∀(i:Nat) s b,ρ[i]? = some s→s.own=true→σ[i]? = some (some (.ref b))→H0 b=none
section
variable {K:PySem.W.Frag}{cl:Nat→Addr}{kd:Kd}{p0 p p1:List (Pt kd)}{qs:List (Nat×Hd)}{H0 F0 H F H1 F1:Hp}{ρ:Rho}{S S1:List Ob}{σ:St}
theorem FM.grow (f:FM K cl qs p0 p H0 F0 ρ S σ H F)(g:Ex p p1 F H F1 H1)(st:StM K cl F1 H1 p1 S1):FM K cl qs p0 p1 H0 F0 ρ S1 σ H1 F1:=⟨f.ex.trans g,f.rs.ex g,st,f.nw⟩
theorem FM.fh (f:FM K cl qs p0 p H0 F0 ρ S σ H F):Same F H:=f.ex.fh
theorem StM.cellH (st:StM K cl F H p S){b:Addr}(h:cM p b):∃o,H b=some o∧o.mu=true:=by
 obtain⟨x,hx,hc⟩:=h
 obtain⟨i,hi⟩:=List.getElem?_of_mem hx
 obtain⟨T,hT⟩:∃T,S[i]? = some T:=⟨_,List.getElem?_eq_getElem (by rw[← st.len];exact(List.getElem?_eq_some_iff.mp hi).1)⟩
 exact(st.each i x T hi hT).cellH hc
theorem FM.set (f:FM K cl qs p0 p H0 F0 ρ S σ H F){i:Nat}{v:V}{d:D}(ne:∀x∈qs,i≠x.1)(h:Dt K cl F v d):FM K cl qs p0 p H0 F0 (ρ.set i (.fz d)) S (σ.set i (some v)) H F where
 ex:=f.ex
 st:=f.st
 rs := {
  rl:=f.rs.rl.set h
  at_:=fun x hx=>by rw[List.getElem?_set_ne (ne x hx)];exact f.rs.at_ x hx
  no:=fun x hx=>by rw[List.getElem?_set_ne (ne x hx)];exact f.rs.no x hx
  ap:=fun j s b z o e=>by
   rcases get_set z with⟨rfl,w,_⟩|⟨hj,w⟩
   ·subst w;cases o
   ·rw[List.getElem?_set_ne hj] at e;exact f.rs.ap j s b w o e}
 nw:=fun j s b z o e=>by
  rcases get_set z with⟨rfl,w,_⟩|⟨hj,w⟩
  ·subst w;cases o
  ·rw[List.getElem?_set_ne hj] at e;exact f.nw j s b w o e
theorem FM.setO (f:FM K cl qs p0 p H0 F0 ρ S σ H F){i:Nat}{c:Addr}{vs:List V}{ds:List D}(ne:∀x∈qs,i≠x.1)(hc:H c=none)(h:Dts K cl F vs ds):FM K cl qs p0 p H0 F0 (ρ.set i (.ow ds)) S (σ.set i (some (.ref c))) (upd H c (.lst vs)) F:=by
 have g:Gr F H F (upd H c (.lst vs)):=Gr.newO f.fh hc
 have hn:H0 c=none:=by
  cases e:H0 c with
  | none=>rfl
  | some o =>
   by_cases hcell:cM p c
   ·obtain⟨o',e',_⟩:=f.st.cellH hcell
    rw[hc] at e';cases e'
   ·rw[f.ex.gr.hh c o e hcell] at hc;cases hc
 have ncell:¬cM p c:=fun z=>by obtain⟨o,e,_⟩:=f.st.cellH z;rw[hc] at e;cases e
 refine⟨f.ex.trans (Ex.of g),⟨(f.rs.rl.setO hc h),fun x hx=>?_,fun x hx=>?_,fun j s b z o e=>?_⟩,f.st.grow g,fun j s b z o e=>?_⟩
 ·rw[List.getElem?_set_ne (ne x hx)];exact f.rs.at_ x hx
 ·rw[List.getElem?_set_ne (ne x hx)];exact f.rs.no x hx
 ·rcases get_set z with⟨rfl,w,hl⟩|⟨hj,w⟩
  ·rw[xM (f.rs.rl.len▸hl)] at e
   injection e with e;injection e with e;injection e with e
   rw[← e];exact ncell
  ·rw[List.getElem?_set_ne hj] at e;exact f.rs.ap j s b w o e
 ·rcases get_set z with⟨rfl,w,hl⟩|⟨hj,w⟩
  ·rw[xM (f.rs.rl.len▸hl)] at e
   injection e with e;injection e with e;injection e with e
   rw[← e];exact hn
  ·rw[List.getElem?_set_ne hj] at e;exact f.nw j s b w o e
end
def Fp {kd:Kd}(F:Hp)(p:List (Pt kd))(F':Hp)(p':List (Pt kd)):Prop:=Same F F'∧p <+: p'
theorem Fp.refl {kd:Kd}{F:Hp}{p:List (Pt kd)}:Fp F p F p:=⟨Same.refl _,List.prefix_refl _⟩
theorem Fp.trans {kd:Kd}{F F1 F2:Hp}{p p1 p2:List (Pt kd)}(a:Fp F p F1 p1)(b:Fp F1 p1 F2 p2):Fp F p F2 p2:=⟨a.1.trans b.1,a.2.trans b.2⟩
theorem Ex.fp {kd:Kd}{F F1 H H1:Hp}{p p1:List (Pt kd)}(g:Ex p p1 F H F1 H1):Fp F p F1 p1:=⟨g.gr.ff,g.pre⟩
def OSm (K:PySem.W.Frag)(cl:Nat→Addr){kd:Kd}(qs:List (Nat×Hd))(p0 pc:List (Pt kd))(H0 F0 F:Hp)(o:Om)(Dn:Ends):Prop :=
 match o with
 | .nx ρ S=>∀σ H F' p,FM K cl qs p0 p H0 F0 ρ S σ H F'→Fp F pc F' p→Dn.nx σ H
 | .rt d S=>∀v H F' p,Ex p0 p F0 H0 F' H→StM K cl F' H p S→Dt K cl F' v d→Dn.rt v H
 | .no=>False
def tSm (K:PySem.W.Frag)(cl:Nat→Addr)(kd:Kd)(qs:List (Nat×Hd))(g:Rho→List Ob→Om):TS:=fun Dn σ H=>∃(p0 p:List (Pt kd)) (H0 F0:Hp) (ρ:Rho) (F:Hp) (S:List Ob),FM K cl qs p0 p H0 F0 ρ S σ H F∧OSm K cl qs p0 p H0 F0 F (g ρ S) Dn
def XSm (X:Cx)(cl:Nat→Addr)(kd:Kd)(qs:List (Nat×Hd))(st:Stmt)(g:Rho→List Ob→Om):Prop:=PS X st (tSm X.K cl kd qs g)
def XSsm (X:Cx)(cl:Nat→Addr)(kd:Kd)(qs:List (Nat×Hd))(st:List Stmt)(g:Rho→List Ob→Om):Prop:=PSs X st (tSm X.K cl kd qs g)
def yNx:Rho→List Ob→Om:=.nx
def zay (g h:Rho→List Ob→Om):Rho→List Ob→Om:=fun ρ S=>match g ρ S with | .nx ρ' S'=>h ρ' S'|o=>o
def zdx (f:Rho→List Ob→Rm D):Rho→List Ob→Om:=fun ρ S=>match f ρ S with|some (d,S')=>.rt d S'|none=>.no
def zdU (i:Nat)(f:Rho→List Ob→Rm D):Rho→List Ob→Om:=fun ρ S=>match f ρ S with|some (d,S')=>.nx (ρ.set i (.fz d)) S'|none=>.no
def yIf (ft:Rho→List Ob→Rm Bool)(g h:Rho→List Ob→Om):Rho→List Ob→Om:=fun ρ S=>match ft ρ S with|some (b,S')=>if b=true then g ρ S' else h ρ S'|none=>.no
def forM (i:Nat)(g:Rho→List Ob→Om):List D→Rho→List Ob→Om
 | [],ρ,S=>.nx ρ S
 | d::ds,ρ,S=>match g (ρ.set i (.fz d)) S with | .nx ρ' S'=>forM i g ds ρ' S'|o=>o
section
variable {X:Cx}{cl:Nat→Addr}{kd:Kd}{qs:List (Nat×Hd)}{st:Stmt}{rest:List Stmt}{g h:Rho→List Ob→Om}{f:Rho→List Ob→Rm D}{e:Expr}{pos:Pos}
theorem OSm.grow {K:PySem.W.Frag}{p pc p1:List (Pt kd)}{H0 F0 F F1:Hp}{o:Om}{Dn:Ends}(h:OSm K cl qs p pc H0 F0 F o Dn)(s:Fp F pc F1 p1):OSm K cl qs p p1 H0 F0 F1 o Dn:=by
 cases o with
 | nx ρ S=>exact fun σ H F' p R z=>h σ H F' p R (s.trans z)
 | rt d S=>exact h
 | no=>exact h
theorem vV:XSsm X cl kd qs [] yNx:=by
 intro pins s σ H Dn I ⟨p0,p,H0,F0,ρ,F,S,fs,o⟩
 exact pss_nil pins s σ H Dn I (o σ H F p fs Fp.refl)
theorem wu (h:XSm X cl kd qs st g):XSsm X cl kd qs [st] g:=zcP h
theorem zX (h1:XSm X cl kd qs st g)(h2:XSsm X cl kd qs rest h):XSsm X cl kd qs (st::rest) (zay g h):=by
 intro pins s σ H Dn I ⟨p0,p,H0,F0,ρ,F,S,fs,o⟩
 refine j4 h1 h2 pins s σ H Dn I ⟨p0,p,H0,F0,ρ,F,S,fs,?_⟩
 unfold zay at o
 cases e:g ρ S with
 | nx ρ' S'=>rw[e] at o;exact fun σ' H' F' p' fs' s'=>⟨p0,p',H0,F0,ρ',F',S',fs',o.grow s'⟩
 | rt d S'=>rw[e] at o;exact o
 | no=>rw[e] at o;exact o
theorem qe (h:XEm X cl kd qs e f):XSm X cl kd qs (.Return (some e) pos) (zdx f):=by
 intro pins s σ H Dn I ⟨p0,p,H0,F0,ρ,F,S,fs,o⟩
 refine ps_ret h pins s σ H Dn I ⟨p,ρ,F,S,fs.rs,fs.st,?_⟩
 unfold zdx at o
 cases e:f ρ S with
 | none=>rw[e] at o;exact o
 | some r=>obtain⟨d,S'⟩:=r;rw[e] at o;exact fun v H' F' p' gg st' w=>o v H' F' p' (fs.ex.trans gg) st' w
theorem qC {i:Nat}{x:Str}{pos':Pos}(ne:∀x∈qs,i≠x.1)(hN:X.N.Nodup)(hi:X.N[i]? = some x)(hx:Loc X.env.scope x)(he:XEm X cl kd qs e f)(hs:swapsWith e (some (.Name x pos')) pos.line X.env=pure false:=by rfl)(hf:X.fn x=true∨X.env.scope.names.lookup x=some .local:=by first|exact .inl rfl|exact .inr rfl|assumption) :
  XSm X cl kd qs (.Assign [.Name x pos'] e pos) (zdU i f):=by
 intro pins s σ H Dn I ⟨p0,p,H0,F0,ρ,F,S,fs,o⟩
 refine zb5 hN hi hx he hs hf pins s σ H Dn I ⟨p,ρ,F,S,fs.rs,fs.st,?_⟩
 unfold zdU at o
 cases e:f ρ S with
 | none=>rw[e] at o;exact o
 | some r=>obtain⟨d,S'⟩:=r;rw[e] at o;exact fun v H' F' p' gg st' w=>o _ H' F' p' ((fs.grow gg st').set ne w) gg.fp
theorem zao {c:Expr}{a b:List Stmt}{ft:Rho→List Ob→Rm Bool}(hc:XTm X cl kd qs c ft)(ha:XSsm X cl kd qs a g)(hb:XSsm X cl kd qs b h):XSm X cl kd qs (.If c a b pos) (yIf ft g h):=by
 intro pins s σ H Dn I ⟨p0,p,H0,F0,ρ,F,S,fs,o⟩
 refine ps_if hc ha hb pins s σ H Dn I ⟨p,ρ,F,S,fs.rs,fs.st,?_⟩
 unfold yIf at o
 cases e:ft ρ S with
 | none=>rw[e] at o;exact o
 | some r =>
  obtain⟨b,S'⟩:=r
  rw[e] at o
  intro v H' F' p' gg st' w
  subst w
  cases v with
  | true=>exact⟨p0,p',H0,F0,ρ,F',S',fs.grow gg st',o.grow gg.fp⟩
  | false=>exact⟨p0,p',H0,F0,ρ,F',S',fs.grow gg st',o.grow gg.fp⟩
end
end L2
namespace L2
open PySem PySem.Spec PyProof.Rows
def runMo (g:Rho→List Ob→Om):Rho→Out:=fun ρ=>match g ρ [] with | .rt d _=>.rt d|_=>.no
theorem xss_multi {X:Cx}{cl:Nat→Addr}{E:XK}{kd:Kd}{sts:List Stmt}{g:Rho→List Ob→Om}(h:XSsm X cl kd [] sts g):XSs X cl E sts (runMo g):=by
 intro pins s σ H Dn I ⟨H0,F0,ρ,F,R,o⟩
 refine h pins s σ H Dn I ⟨[],[],H0,F0,ρ,F,[],⟨Ex.of R.gr,⟨R.here,fun x hx=>(by cases hx),fun x hx=>(by cases hx),fun i s b _ _ _ z=>(by obtain⟨x,hx,_⟩:=z;cases hx)⟩,⟨rfl,fun i p S e=>(by simp at e),fun i j p p' b e=>(by simp at e)⟩,fun i s b e1 e2 e3=>?_⟩,?_⟩
 ·cases s with
  | ow ds =>
   obtain⟨a,vs,h1,h2,h3,h4,_⟩:=R.ow i ds e1
   rw[e3] at h1
   injection h1 with h1;injection h1 with h1;injection h1 with h1
   rw[h1];exact h4
  | od ds =>
   obtain⟨a,vs,h1,h2,h3,h4,_⟩:=R.od i ds e1
   rw[e3] at h1
   injection h1 with h1;injection h1 with h1;injection h1 with h1
   rw[h1];exact h4
  | _=>cases e2
 ·unfold runMo at o
  cases e:g ρ [] with
  | nx ρ' S=>rw[e] at o;exact o.elim
  | no=>rw[e] at o;exact o.elim
  | rt d S =>
   rw[e] at o
   intro v H' F' p x st w
   exact o v H' F' ⟨x.gr.ff,fun b o' eb=>x.gr.hh b o' eb fun z=>(x.fr b z).elim (fun⟨_,h,_⟩=>by cases h) (fun z=>by rw[z] at eb;cases eb),x.gr.fh,x.gr.no⟩ w
end L2
namespace L2
open PySem PySem.Spec PyProof.Rows
def OIm (K:PySem.W.Frag)(cl:Nat→Addr){kd:Kd}(ps:List (Pt kd))(F H:Hp)(r:Rm (List D))(Q:It→Hp→Prop):Prop :=
 match r with
 | some (ds,Ss)=>∀J G vs H' F' ps',Ex ps ps' F H F' H'→StM K cl F' H' ps' Ss→Wlk J G vs→(∀H'',Same F' H''→G H'')→Dts K cl F' vs ds→Q J H'
 | none=>False
def tIm (K:PySem.W.Frag)(cl:Nat→Addr)(kd:Kd)(qs:List (Nat×Hd))(f:Rho→List Ob→Rm (List D)):TI:=fun σ H Q=>∃(p:List (Pt kd)) (ρ:Rho) (F:Hp) (S:List Ob),RM K cl qs p ρ σ H F∧StM K cl F H p S∧OIm K cl p F H (f ρ S) Q
def XIm (X:Cx)(cl:Nat→Addr)(kd:Kd)(qs:List (Nat×Hd))(tg e:Expr)(f:Rho→List Ob→Rm (List D)):Prop:=PI X tg e (tIm X.K cl kd qs f)
def yForI (i:Nat)(fi:Rho→List Ob→Rm (List D))(g:Rho→List Ob→Om):Rho→List Ob→Om:=fun ρ S=>match fi ρ S with|some (ds,S')=>forM i g ds ρ S'|none=>.no
section
variable {X:Cx}{cl:Nat→Addr}{kd:Kd}{qs:List (Nat×Hd)}{tg iter e a:Expr}{E:XK}{pos:Pos}
theorem xim_up {f:Rho→Rs (List D)}(h:XI X cl E tg e f):XIm X cl kd qs tg e (upM f):=by
 intro pins s σ H Q I ⟨p,ρ,F,S,R,st,o⟩
 refine h pins s σ H Q I ⟨F,F,ρ,F,R.rl,?_⟩
 unfold upM at o
 cases e:f ρ with
 | ok d=>rw[e] at o;exact fun J G vs H' F' g W hG q=>o J G vs H' F' p (Ex.of g) (st.grow g) W hG q
 | ex n=>rw[e] at o;exact o.elim
 | no=>rw[e] at o;exact o.elim
theorem xsm_forI {body:List Stmt}{fi:Rho→List Ob→Rm (List D)}{g:Rho→List Ob→Om}{i:Nat}(ne:∀x∈qs,i≠x.1)(hp:PassesOwn (model X.prog X.w) X.A X.env X.xe)(hc:X.calm=true)(hi:XIm X cl kd qs tg iter fi)(hg:PG X tg (wC i))(hb:XSsm X cl kd qs body g)(hs:∀x,foldedSetIterable iter X.env x=pure x:=by intro _;rfl):XSm X cl kd qs (.For tg iter body [] pos) (yForI i fi g):=by
 intro pins s σ H Dn I ⟨p0,p,H0,F0,ρ,F,S,fs,o⟩
 refine ps_for hp hc hi hg hb hs pins s σ H Dn I ⟨p,ρ,F,S,fs.rs,fs.st,?_⟩
 unfold yForI at o
 cases e:fi ρ S with
 | none=>rw[e] at o;exact o.elim
 | some r =>
  obtain⟨ds,S1⟩:=r
  rw[e] at o
  dsimp only at o
  intro J G vs H1 F1 p1 gg st1 W hG dq
  refine zdX W (fun k σ H=>∃ρ' F' S' p',FM X.K cl qs p0 p' H0 F0 ρ' S' σ H F'∧Same F1 F'∧OSm X.K cl qs p0 p' H0 F0 F' (forM i g (ds.drop k) ρ' S') Dn) ⟨ρ,F1,S1,p1,fs.grow gg st1,Same.refl _,o.grow gg.fp⟩ (fun k σ' H' _ ⟨ρ',F',S',p',R',s',_⟩=>hG H' (s'.trans R'.fh)) ?_ ?_
  ·rintro k x σ' H' hx ⟨ρ',F',S',p',R',s',o'⟩
   obtain⟨d,hd,qd⟩:=dq.get hx
   have hdr:ds.drop k=d::ds.drop (k+1):=by
    obtain⟨hk,e2⟩:=List.getElem?_eq_some_iff.mp hd
    rw[List.drop_eq_getElem_cons hk,e2]
   rw[hdr] at o'
   unfold forM at o'
   refine⟨p0,p',H0,F0,_,F',S',R'.set ne (qd.mono s'),?_⟩
   cases e2:g (ρ'.set i (.fz d)) S' with
   | nx ρ2 S2=>simp only[e2] at o';exact fun σ2 H2 F2 p2 R2 s2=>⟨ρ2,F2,S2,p2,R2,s'.trans s2.1,o'.grow s2⟩
   | rt d S2=>simp only[e2] at o';exact o'
   | no=>simp only[e2] at o';exact o'
  ·rintro σ' H' ⟨ρ',F',S',p',R',s',o'⟩
   rw[List.drop_of_length_le (by rw[dq.length];exact Nat.le_refl _)] at o'
   exact o' σ' H' F' p' R' Fp.refl
end
def tIo (K:PySem.W.Frag)(cl:Nat→Addr)(kd:Kd)(qs:List (Nat×Hd))(js:List Nat):TI:=fun σ H Q=>∃(ps:List (Pt kd)) (ρ:Rho) (F:Hp) (Ss:List Ob),RM K cl qs ps ρ σ H F∧StM K cl F H ps Ss ∧
 ∀J G vs H' F',Gr F H F' H'→Wlk J G vs→(∀H'',Same F' H''→G H'')→vs.length=js.length→(∀(k:Nat) v,vs[k]? = some v→∃j p,js[k]? = some j∧ps[j]? = some p∧v=.ref p.a)→Q J H'
def XIo (X:Cx)(cl:Nat→Addr)(kd:Kd)(qs:List (Nat×Hd))(tg e:Expr)(js:List Nat):Prop:=PI X tg e (tIo X.K cl kd qs js)
def zaF (fe:Rho→Ob→Ro D)(ρ0:Rho):List Nat→List Ob→Rm (List D)
 | [],Ss=>some ([],Ss)
 | j::js,Ss=>match Ss[j]? with
  | some S=>(match fe ρ0 S with
   | some (e,S')=>(match zaF fe ρ0 js (Ss.set j S') with|some (es,S'')=>some (e::es,S'')|none=>none)
   | none=>none)
  | none=>none
def yCp (js:List Nat)(fe:Rho→Ob→Ro D)(caps:List Nat):Rho→List Ob→Rm D:=fun ρ Ss=>match zaF fe (xN 1 caps ρ) js Ss with|some (es,S')=>some (.lst es,S')|none=>none
structure CompP (X:Cx)(cl:Nat→Addr)(kd:Kd)(scope:Scope)(x:Str)(caps:List Nat)(tg:Expr)(elt:Expr)(fe:Rho→Ob→Ro D):Prop where
 tgt:∀pins C ex s H,PG (cxC X pins scope [x] caps C ex s H) tg (wC 0)
 elm:∀pins C ex s H,XE2 (cxC X pins scope [x] caps C ex s H) cl kd 0 elt fe
theorem RM.capO {K:PySem.W.Frag}{cl:Nat→Addr}{kd:Kd}{qs:List (Nat×Hd)}{ps:List (Pt kd)}{p:Pt kd}{H F:Hp}{ρ:Rho}{σ:St}(R:RM K cl qs ps ρ σ H F)(x:Str)(caps:List Nat):RS K cl p 0 (xN 1 caps ρ) ((zbC [x] caps σ).set 0 (some (.ref p.a))) H F where
 rl:=by
  have h:=((R.rl.cap [x] caps).here).hide (j:=0) (x:=some (V.ref p.a))
  exact h
 at_:=xM (by unfold zbC;simp)
 no:=rfl
 ap := fun i s b z o e=>by
  exfalso
  unfold xN at z
  rcases Nat.lt_or_ge i 1 with h|h
  ·rw[List.getElem?_append_left (by simpa using h),List.getElem?_replicate,if_pos h] at z
   injection z with z;subst z;cases o
  ·rw [List.getElem?_append_right (by simpa using h),List.length_replicate,List.getElem?_map] at z
   cases c:caps[i - 1]? with
   | none=>rw[c] at z;cases z
   | some k =>
    rw[c] at z
    have e':=Option.some.inj z
    dsimp only at e'
    split at e' <;>(subst e';cases o)
theorem xem_compO {X:Cx}{cl:Nat→Addr}{kd:Kd}{qs:List (Nat×Hd)}{scope:Scope}{x:Str}{caps js:List Nat}{elt tg iter:Expr}{fe:Rho→Ob→Ro D}{pos:Pos}(ok:CompOk X scope caps)(hc:X.calm=true)(hi:XIo X cl kd qs tg iter js)(hl:js.length≤1000000)(CI:CompP X cl kd scope x caps tg elt fe)(hs:∀x,foldedSetIterable iter X.env x=pure x:=by intro _;rfl):XEm X cl kd qs (.ListComp elt [⟨tg,iter,[],0⟩] scope pos) (yCp js fe caps):=by
 have ci:CompIn X scope [x] caps tg [] elt (wC 0) v8 (tE2 X.K cl kd 0 fe):=⟨CI.tgt,fun pins C ex s H=>zd4,CI.elm⟩
 intro pins s σ H Q I ⟨ps,ρ,F,Ss,R,st,o⟩
 refine zcr ok hc hi ci hs pins s σ H Q I ⟨ps,ρ,F,Ss,R,st,?_⟩
 unfold yCp at o
 cases e2:zaF fe (xN 1 caps ρ) js Ss with
 | none=>rw[e2] at o;exact o.elim
 | some r =>
  obtain⟨es,S2⟩:=r
  rw[e2] at o
  dsimp only at o
  intro J G vs H1 F1 g W hG lv hv
  refine jP W (sz6 (by rw[lv];exact hl)) (fun i ys H'=>∃F' Ss' es1 es2,Ex ps ps F H F' H'∧Same F1 F'∧StM X.K cl F' H' ps Ss'∧Dts X.K cl F' ys es1∧ys.length≤i∧es=es1++es2∧zaF fe (xN 1 caps ρ) (js.drop i) Ss'=some (es2,S2)) ⟨F1,Ss,[],es,Ex.of g,Same.refl _,st.grow g,.nil,Nat.le_refl _,rfl,e2⟩ (fun i ys H' _ ⟨F',_,_,_,g',ff,_,_,h1,_⟩=>⟨hG H' (ff.trans g'.fh),h1⟩) ?_ ?_
  ·rintro i v ys H' hvi ⟨F',Ss',es1,es2,g',ff,st',q1,hly,rfl,hc'⟩
   obtain⟨j,p,hj,hp,rfl⟩:=hv i v hvi
   have hdr:js.drop i=j::js.drop (i+1):=by
    obtain⟨hk,e2⟩:=List.getElem?_eq_some_iff.mp hj
    rw[List.drop_eq_getElem_cons hk,e2]
   rw[hdr] at hc'
   unfold zaF at hc'
   cases e3:Ss'[j]? with
   | none=>rw[e3] at hc';cases hc'
   | some T =>
    rw[e3] at hc'
    dsimp only at hc'
    have R2:=(R.ex g').capO (p:=p) x caps
    refine⟨Kps.set rfl,?_⟩
    dsimp only [v8]
    rw[if_pos rfl]
    refine⟨p,_,F',T,R2,st'.each j p T hp e3,?_⟩
    cases e4:fe (xN 1 caps ρ) T with
    | none=>rw[e4] at hc';cases hc'
    | some r4 =>
     obtain⟨e,T'⟩:=r4
     rw[e4] at hc'
     dsimp only at hc'
     intro y H3 F3 g3 st3 qy
     cases e5:zaF fe (xN 1 caps ρ) (js.drop (i+1)) (Ss'.set j T') with
     | none=>rw[e5] at hc';cases hc'
     | some r5 =>
      obtain⟨es5,S5⟩:=r5
      rw[e5] at hc'
      have hh:=Option.some.inj hc'
      injection hh with h1 h2
      exact⟨F3,Ss'.set j T',es1++[e],es5,g'.trans (Ex.one (List.mem_of_getElem? hp) g3),ff.trans g3.ff,st'.one hp g3 st3,(q1.mono g3.ff).append (.cons qy .nil),by simp;exact hly,by rw[← h1,List.append_assoc];rfl,by rw[e5,h2]⟩
  ·rintro ys H' ⟨F',Ss',es1,es2,g',ff,st',q1,hly,rfl,hc'⟩
   rw[List.drop_of_length_le (by rw[lv];exact Nat.le_refl _)] at hc'
   have hh:=Option.some.inj hc'
   injection hh with h1 h2
   rw[← h1,List.append_nil] at o
   rw[h2] at st'
   intro c hc
   have gn:Gr F' H' (upd F' c (.lst ys)) (upd H' c (.lst ys)):=Gr.new g'.fh hc
   exact o _ _ _ ps (g'.trans (Ex.of gn)) (st'.grow gn) (.lst (.inl (.inl zM)) (Dts.mono q1 gn.ff))
end L2
namespace L2
open PySem PySem.Spec PyProof.Rows
section
variable {K:PySem.W.Frag}{cl:Nat→Addr}{kd:Kd}{p0 p1 p:List (Pt kd)}{pn x:Pt kd}{qs:List (Nat×Hd)}{H0 F0 H F H' F':Hp}{ρ:Rho}{S1 Ss:List Ob}{T U:Ob}{σ:St}{q j:Nat}
theorem OSm.more {r:Om}{Dn:Ends}{z:List (Nat×Hd)}{pc pd:List (Pt kd)}(o:OSm K cl qs p0 pc H0 F0 F r Dn)(s:Fp F pc F' pd):OSm K cl (qs++z) p0 pd H0 F0 F' r Dn:=by
 cases r with
 | nx ρ6 S6=>exact fun σ6 H6 F6 p6 f6 s6=>o σ6 H6 F6 p6 ⟨f6.ex,⟨f6.rs.rl,fun z hz=>f6.rs.at_ z (List.mem_append_left _ hz),fun z hz=>f6.rs.no z (List.mem_append_left _ hz),f6.rs.ap⟩,f6.st,f6.nw⟩ (s.trans s6)
 | no=>exact o
 | rt d S6=>exact o
end
end L2
namespace L2
open PySem PySem.Spec PyProof.Rows
section
variable {K:PySem.W.Frag}{cl:Nat→Addr}{kd:Kd}{p0 p:List (Pt kd)}{qs:List (Nat×Hd)}{H0 F0 H F:Hp}{ρ:Rho}{S:List Ob}{σ:St}{q:Nat}{v:V}{h:Hd}
theorem FM.hold (f:FM K cl qs p0 p H0 F0 ρ S σ H F)(hv:Hold K F p v h)(ne:∀x∈qs,q≠x.1)(hq:q<σ.length):FM K cl (qs++[(q,h)]) p0 p H0 F0 (ρ.set q .no) S (σ.set q (some v)) H F:=by
 refine⟨f.ex,⟨(f.rs.rl).hide,fun z hz=>?_,fun z hz=>?_,fun i s b z oo eb=>?_⟩,f.st,fun i s b z oo eb=>?_⟩
 ·rcases List.mem_append.mp hz with hz|hz
  ·obtain⟨pp,h1,h2⟩:=f.rs.at_ z hz
   exact⟨pp,by rw[List.getElem?_set_ne (ne z hz)];exact h1,h2⟩
  ·rw[List.mem_singleton.mp hz]
   exact⟨_,xM hq,hv⟩
 ·rcases List.mem_append.mp hz with hz|hz
  ·rw[List.getElem?_set_ne (ne z hz)];exact f.rs.no z hz
  ·rw[List.mem_singleton.mp hz];exact xM (by rw[f.rs.rl.len];exact hq)
 ·rcases get_set z with⟨rfl,w,_⟩|⟨hj,w⟩
  ·subst w;cases oo
  ·rw[List.getElem?_set_ne hj] at eb;exact f.rs.ap i s b w oo eb
 ·rcases get_set z with⟨rfl,w,_⟩|⟨hj,w⟩
  ·subst w;cases oo
  ·rw[List.getElem?_set_ne hj] at eb;exact f.nw i s b w oo eb
theorem FM.less {z:List (Nat×Hd)}(f:FM K cl (qs++z) p0 p H0 F0 ρ S σ H F):FM K cl qs p0 p H0 F0 ρ S σ H F :=
 ⟨f.ex,⟨f.rs.rl,fun z hz=>f.rs.at_ z (List.mem_append_left _ hz),fun z hz=>f.rs.no z (List.mem_append_left _ hz),f.rs.ap⟩,f.st,f.nw⟩
end
def tOb (K:PySem.W.Frag)(cl:Nat→Addr)(kd:Kd)(qs:List (Nat×Hd))(j:Nat):TE:=fun σ H Q=>∃(ps:List (Pt kd)) (ρ:Rho) (F:Hp) (Ss:List Ob) (p:Pt kd),RM K cl qs ps ρ σ H F∧StM K cl F H ps Ss∧ps[j]? = some p∧Q (.ref p.a) H
def XO (X:Cx)(cl:Nat→Addr)(kd:Kd)(qs:List (Nat×Hd))(o:Expr)(j:Nat):Prop:=PE X o (tOb X.K cl kd qs j)
def eMM (j n:Nat)(fn:List D→Ob→Ro D)(fs:Rho→List Ob→Rm (List D)):Rho→List Ob→Rm D:=fun ρ Ss=>if j<Ss.length then m2 fs (fun ds _ Ss=>if ds.length+1=n then(match Ss[j]? with|some S=>(match fn ds S with|some (d,S')=>some (d,Ss.set j S')|none=>none)|none=>none) else none) ρ Ss else none
section
variable {X:Cx}{cl:Nat→Addr}{kd:Kd}{qs:List (Nat×Hd)}{q j k n:Nat}{o b e:Expr}{es:List Expr}{fs:Rho→List Ob→Rm (List D)}{m:Str}{pos apos:Pos}{E:XK}{f:Addr}{fd:FuncData}{ps:List Str}{fn:List D→Ob→Ro D}
theorem zcC {js:List Nat}(hq:(q,.l js)∈qs)(hk:js[k]? = some j)(ho:PE X o (zcE q))(hb:PE X b (tC (.int (k:Int))))(hs:zaP b):XO X cl kd qs (.Subscript o b pos) j:=by
 intro pins s σ H Q I ⟨ps,ρ,F,Ss,p,R,st,hp,h⟩
 obtain⟨_,hσ,c,vs,rfl,sq,hl,hv⟩:=R.at_ _ hq
 have kl:k<vs.length:=by rw[hl];exact(List.getElem?_eq_some_iff.mp hk).1
 have hw:vs[k]? = some vs[k]:=List.getElem?_eq_getElem kl
 obtain⟨j',p',h1,h2,h3⟩:=hv k _ hw
 have ej:j'=j:=by rw[hk] at h1;exact(Option.some.inj h1).symm
 subst ej
 have ep:p'=p:=by rw[hp] at h2;exact(Option.some.inj h2).symm
 subst ep
 exact pe_ix ix_list ho hb hs pins s σ H Q I ⟨.ref c,hσ,c,vs,_,vs[k],rfl,rfl,R.fh.seq sq,atI_nat hw,by rw[h3];exact h⟩
theorem OEm.meth {p:List (Pt kd)}{x:Pt kd}{F H:Hp}{S:List Ob}{T:Ob}{r:Ro D}{Q:VK}(st:StM X.K cl F H p S)(hx:p[j]? = some x)(o:OEm X.K cl p F H (match r with|some (d,S')=>some (d,S.set j S')|none=>none) Q):OE2 X.K cl x F H r Q:=by
 cases r with
 | none=>exact o
 | some r =>
  obtain⟨d,T'⟩:=r
  exact fun v H' F' g st' w=>o v H' F' p (Ex.one (List.mem_of_getElem? hx) g) (st.one hx g st') w
theorem Ex.at_ {p p1:List (Pt kd)}{F H F1 H1:Hp}(x:Ex p p1 F H F1 H1){y:Pt kd}(h:p[j]? = some y):p1[j]? = some y:=by
 obtain⟨t,rfl⟩:=x.pre
 rw[List.getElem?_append_left (List.getElem?_eq_some_iff.mp h).1];exact h
theorem zaH {pl:Sem Bool}(c:Cls X.K kd.C)(hm:Meth X.K kd.C m f)(nm:m∉kd.nm)(G:FnOk X.prog X.w X.K X.mg X.base (CX1 X.prog X.w) k f fd ps (spS X.K cl kd fn n 0))(hr:Room k X.A)(hb:Binds X.K fd ps [])(hx:vR (CX1 X.prog X.w) X E)(ho:XO X cl kd qs o j)(ha:XAm X cl kd qs (e::es) fs)
  (hst:starEach (e::es) X.env=(false,eval e X.env)::starEach es X.env) (hpl:(backTo pos (starEach es X.env)).any (·.1)=false:=by rfl)
  (ht:eval (.Call (.Attribute o m apos) (e::es) [] pos) X.env=(do
   let ov ← eval o X.env
   standAt apos.atName
   let (f,first) ← holding [ov] (getMethod ov m pl)
   callWith pos f first (backTo pos (starEach (e::es) X.env)) (backToKw pos (keywordEach [] X.env))):=by rfl) :
  XEm X cl kd qs (.Call (.Attribute o m apos) (e::es) [] pos) (eMM j n fn fs):=by
 intro pins s σ H Q I ⟨p,ρ,F,S,R,st,oo⟩
 unfold eMM at oo
 by_cases hj:j<S.length
 ·rw [if_pos hj] at oo
  obtain⟨T,hT⟩:∃T,S[j]? = some T:=⟨_,List.getElem?_eq_getElem hj⟩
  obtain⟨x,hp⟩:∃x,p[j]? = some x:=⟨_,List.getElem?_eq_getElem (by rw[st.len];exact hj)⟩
  obtain⟨vs,ei,_⟩:=(st.each j x T hp hT).fs
  refine pe_meth (pl:=pl) ho c hm G hr hb .nil hx ha hst hpl ht pins s σ H Q I ⟨p,ρ,F,S,x,R,st,hp,x.a,x.dx,_,rfl,ei,xq nm,p,ρ,F,S,R,st,oo.bd fun ds us H1 F1 p1 S1 g1 st1 w1 o1=>?_⟩
  have hp1:=g1.at_ hp
  split at o1
  ·rename_i hl
   rw[List.append_nil]
   cases e2:S1[j]? with
   | none=>rw[e2] at o1;exact o1.elim
   | some T1 =>
    rw[e2] at o1
    exact⟨x,F1,T1,[],us,[],ds,rfl,rfl,by rw[Dts.length w1];omega,g1.fh,st1.each j x T1 hp1 e2,.nil,w1,OEm.meth (T:=T1) st1 hp1 o1⟩
  ·exact o1.elim
 ·rw[if_neg hj] at oo;exact oo.elim
theorem qu {pl:Sem Bool}(c:Cls X.K kd.C)(hm:Meth X.K kd.C m f)(nm:m∉kd.nm)(G:FnOk X.prog X.w X.K X.mg X.base (CX1 X.prog X.w) k f fd ps (spS X.K cl kd fn 1 0))(hr:Room k X.A)(hb:Binds X.K fd ps [])(hx:vR (CX1 X.prog X.w) X E)(ho:XO X cl kd qs o j)
  (ht:eval (.Call (.Attribute o m apos) [] [] pos) X.env=(do
   let ov ← eval o X.env
   standAt apos.atName
   let (f,first) ← holding [ov] (getMethod ov m pl)
   callWith pos f first (backTo pos (starEach [] X.env)) (backToKw pos (keywordEach [] X.env))):=by rfl) :
  XEm X cl kd qs (.Call (.Attribute o m apos) [] [] pos) (eMM j 1 fn nM):=by
 intro pins s σ H Q I ⟨p,ρ,F,S,R,st,oo⟩
 unfold eMM at oo
 by_cases hj:j<S.length
 ·rw[if_pos hj] at oo
  have o1:OEm X.K cl p F H (match S[j]? with|some S1=>(match fn [] S1 with|some (d,S')=>some (d,S.set j S')|none=>none)|none=>none) Q:=oo
  obtain⟨T,e2⟩:∃T,S[j]? = some T:=⟨_,List.getElem?_eq_getElem hj⟩
  rw[e2] at o1
  obtain⟨x,hp⟩:∃x,p[j]? = some x:=⟨_,List.getElem?_eq_getElem (by rw[st.len];exact(List.getElem?_eq_some_iff.mp e2).1)⟩
  have sx:=st.each j x T hp e2
  obtain⟨vs,ei,_⟩:=sx.fs
  exact pe_meth0 (pl:=pl) ho c hm G hr hb .nil hx ht pins s σ H Q I ⟨p,ρ,F,S,x,R,st,hp,x.a,x.dx,_,rfl,ei,xq nm,x,F,T,[],[],[],[],rfl,rfl,rfl,R.fh,sx,.nil,.nil,OEm.meth (T:=T) st hp o1⟩
 ·rw[if_neg hj] at oo;exact oo.elim
end
def ySet2 (i j:Nat)(f:Rho→List Ob→Rm D):Rho→List Ob→Om:=fun ρ S=>match f ρ S with|some (.tup [a,b],S')=>.nx ((ρ.set i (.fz a)).set j (.fz b)) S'|_=>.no
theorem xsm_set2 {X:Cx}{cl:Nat→Addr}{kd:Kd}{qs:List (Nat×Hd)}{e:Expr}{f:Rho→List Ob→Rm D}{i j:Nat}{x y:Str}{px py tp pos:Pos}{k:Nat}(ni:∀x∈qs,i≠x.1)(nj:∀x∈qs,j≠x.1)(hg:PG X (.Tuple [.Name x px,.Name y py] k tp) (gTup X.K 2 (za9 (wC i) (za9 (wC j) gNil))))(he:XEm X cl kd qs e f)(hs:swapsWithSole [.Tuple [.Name x px,.Name y py] k tp] e pos.line X.env=pure false:=by rfl)(hw:swappedStores [.Tuple [.Name x px,.Name y py] k tp] e X.env=pure none:=by rfl) :
  XSm X cl kd qs (.Assign [.Tuple [.Name x px,.Name y py] k tp] e pos) (ySet2 i j f):=by
 intro pins s σ H Dn I ⟨p0,p,H0,F0,ρ,F,S,fs,o⟩
 refine(ps_asg he hg hs hw) pins s σ H Dn I ⟨p,ρ,F,S,fs.rs,fs.st,?_⟩
 unfold ySet2 at o
 cases e:f ρ S with
 | none=>rw[e] at o;exact o
 | some r =>
  obtain⟨d,S'⟩:=r
  rw[e] at o
  intro v H' F' p' gg st' q
  match d,q,o with
  | .tup [d1,d2],q,o =>
   cases q with
   | tup sq dq =>
    obtain⟨v1,v2,rfl,q1,q2⟩:=dq.two
    exact⟨_,_,rfl,gg.fh.seqT sq,rfl,v1,_,rfl,v2,_,rfl,rfl,o _ _ F' p' (((fs.grow gg st').set ni q1).set nj q2) gg.fp⟩
  | .non,_,o=>exact o.elim
  | .bl _,_,o=>exact o.elim
  | .int _,_,o=>exact o.elim
  | .str _,_,o=>exact o.elim
  | .lst _,_,o=>exact o.elim
  | .dct _,_,o=>exact o.elim
  | .exc _,_,o=>exact o.elim
  | .tup [],_,o=>exact o.elim
  | .tup [_],_,o=>exact o.elim
  | .tup (_::_::_::_),_,o=>exact o.elim
theorem xio_list {X:Cx}{cl:Nat→Addr}{kd:Kd}{qs:List (Nat×Hd)}{tg o:Expr}{q:Nat}{js:List Nat}(hq:(q,.l js)∈qs)(ho:PE X o (zcE q)):XIo X cl kd qs tg o js:=by
 intro pins s σ H Q I ⟨ps,ρ,F,Ss,R,st,k⟩
 obtain⟨_,hσ,c,vs,rfl,sq,hl,hv⟩:=R.at_ _ hq
 exact pi_list ho pins s σ H Q I ⟨.ref c,hσ,c,rfl,⟨_,R.fh.seq sq⟩,k _ _ _ H F (Gr.refl R.fh) wlk_list (fun H'' s=>s.seq sq) hl hv⟩
def forO (i:Nat)(g:Nat→Rho→List Ob→Om):List Nat→Rho→List Ob→Om
 | [],ρ,S=>.nx ρ S
 | j::js,ρ,S=>if i<ρ.length then(match g j (ρ.set i .no) S with | .nx ρ' S'=>forO i g js ρ' S'|o=>o) else .no
theorem xsm_forO {X:Cx}{cl:Nat→Addr}{kd:Kd}{qs:List (Nat×Hd)}{tg iter:Expr}{pos:Pos}{body:List Stmt}{js:List Nat}{g:Nat→Rho→List Ob→Om}{i:Nat}(ne:∀x∈qs,i≠x.1)(hp:PassesOwn (model X.prog X.w) X.A X.env X.xe)(hc:X.calm=true)(hi:XIo X cl kd qs tg iter js)(hg:PG X tg (wC i))(hb:∀j,XSsm X cl kd (qs++[(i,.o j)]) body (g j))(hs:∀x,foldedSetIterable iter X.env x=pure x:=by intro _;rfl):XSm X cl kd qs (.For tg iter body [] pos) (forO i g js):=by
 have hb':PSs X body (fun Dn σ H=>∃j,tSm X.K cl kd (qs++[(i,.o j)]) (g j) Dn σ H):=fun pins s σ H Dn I ⟨j,h⟩=>hb j pins s σ H Dn I h
 intro pins s σ H Dn I ⟨p0,p,H0,F0,ρ,F,S,fs,o⟩
 refine ps_for hp hc hi hg hb' hs pins s σ H Dn I ⟨p,ρ,F,S,fs.rs,fs.st,?_⟩
 intro J G vs H1 F1 gg W hG hl hv
 refine zdX (g:=wC i) (tb:=fun Dn σ H=>∃j,tSm X.K cl kd (qs++[(i,.o j)]) (g j) Dn σ H) (D:=Dn) W (fun k σ H=>∃ρ' F' S' p',FM X.K cl qs p0 p' H0 F0 ρ' S' σ H F'∧Fp F1 p F' p'∧OSm X.K cl qs p0 p' H0 F0 F' (forO i g (js.drop k) ρ' S') Dn) ⟨ρ,F1,S,p,fs.grow (Ex.of gg) (fs.st.grow gg),Fp.refl,o.grow (Ex.of gg).fp⟩ (fun k σ' H' _ ⟨ρ',F',S',p',R',s',_⟩=>hG H' (s'.1.trans R'.fh)) ?_ ?_
 ·rintro k x σ' H' hx ⟨ρ',F',S',p',R',s',o'⟩
  obtain⟨j,pt,hj,hp,rfl⟩:=hv k x hx
  have hdr:js.drop k=j::js.drop (k+1):=by
   obtain⟨hk,e2⟩:=List.getElem?_eq_some_iff.mp hj
   rw[List.drop_eq_getElem_cons hk,e2]
  rw[hdr] at o'
  unfold forO at o'
  by_cases il:i<ρ'.length
  ·rw [if_pos il] at o'
   have hp':p'[j]? = some pt:=by
    obtain⟨t,rfl⟩:=s'.2
    rw[List.getElem?_append_left (List.getElem?_eq_some_iff.mp hp).1];exact hp
   refine⟨j,p0,p',H0,F0,_,F',S',R'.hold (q:=i) (h:=.o j) ⟨pt,hp',rfl⟩ ne (by rw[← R'.rs.rl.len];exact il),?_⟩
   cases e2:g j (ρ'.set i .no) S' with
   | nx ρ2 S2=>simp only[e2] at o';exact fun σ2 H2 F2 p2 R2 s2=>⟨ρ2,F2,S2,p2,R2.less,s'.trans s2,o'.grow s2⟩
   | rt d S2=>simp only[e2] at o';exact o'
   | no=>simp only[e2] at o';exact o'
  ·rw[if_neg il] at o';exact o'.elim
 ·rintro σ' H' ⟨ρ',F',S',p',R',s',o'⟩
  rw[List.drop_of_length_le (by rw[hl];exact Nat.le_refl _)] at o'
  exact o' σ' H' F' p' R' Fp.refl
end L2
namespace L2
open PySem PySem.Spec PyProof.Rows
section
variable {K:PySem.W.Frag}{cl:Nat→Addr}{kd:Kd}{p ps:List (Pt kd)}{qs qi:List (Nat×Hd)}{H F:Hp}{ρ:Rho}{σ:St}
theorem RM.set (R:RM K cl qs p ρ σ H F){i:Nat}{v:V}{d:D}(ne:∀x∈qs,i≠x.1)(h:Dt K cl F v d):RM K cl qs p (ρ.set i (.fz d)) (σ.set i (some v)) H F where
 rl:=R.rl.set h
 at_:=fun x hx=>by rw[List.getElem?_set_ne (ne x hx)];exact R.at_ x hx
 no:=fun x hx=>by rw[List.getElem?_set_ne (ne x hx)];exact R.no x hx
 ap:=fun j s b z o e=>by
  rcases get_set z with⟨rfl,w,_⟩|⟨hj,w⟩
  ·subst w;cases o
  ·rw[List.getElem?_set_ne hj] at e;exact R.ap j s b w o e
theorem capR_own {caps:List Nat}{i:Nat}{s:Sl}(z:(xN 1 caps ρ)[i]? = some s):s.own=false:=by
 unfold xN at z
 rcases Nat.lt_or_ge i 1 with h|h
 ·rw[List.getElem?_append_left (by simpa using h),List.getElem?_replicate,if_pos h] at z
  injection z with z;subst z;rfl
 ·rw [List.getElem?_append_right (by simpa using h),List.length_replicate,List.getElem?_map] at z
  cases c:caps[i - 1]? with
  | none=>rw[c] at z;cases z
  | some k =>
   rw[c] at z
   have e':=Option.some.inj z
   dsimp only at e'
   split at e' <;>(subst e';rfl)
theorem RM.cap (R:RM K cl qs p ρ σ H F)(x:Str)(caps:List Nat)(hq:∀z∈qi,1≤z.1∧z.1 - 1<caps.length∧(caps.getD (z.1 - 1) 0,z.2)∈qs):RM K cl qi p (xN 1 caps ρ) (zbC [x] caps σ) H F where
 rl:=(R.rl.cap [x] caps).here
 at_:=fun z hz=>by
  obtain⟨h1,h2,h3⟩:=hq z hz
  obtain⟨v,e1,e2⟩:=R.at_ _ h3
  refine⟨v,?_,e2⟩
  unfold zbC
  rw[List.getElem?_append_right (by simpa using h1),List.length_map,List.getElem?_map,show z.1 - [x].length=z.1 - 1 from by simp,List.getElem?_eq_getElem h2]
  rw[List.getD_eq_getElem?_getD,List.getElem?_eq_getElem h2] at e1
  show some ((σ[caps[z.1 - 1]]?).getD none)=_
  have e1':σ[caps[z.1 - 1]]? = some (some v):=e1
  rw[e1'];rfl
 no:=fun z hz=>by
  obtain⟨h1,h2,h3⟩:=hq z hz
  have e1:=R.no _ h3
  unfold xN
  rw[List.getElem?_append_right (by simpa using h1),List.length_replicate,List.getElem?_map,List.getElem?_eq_getElem h2]
  rw[List.getD_eq_getElem?_getD,List.getElem?_eq_getElem h2] at e1
  have e1':ρ[caps[z.1 - 1]]? = some .no:=e1
  show some (match ρ[caps[z.1 - 1]]? with|some (.fz d)=>Sl.fz d|_=>.no)=_
  rw[e1']
 ap:=fun i s b z o e=>by rw[capR_own z] at o;cases o
end
def jB (fe:Rho→List Ob→Rm D)(ρ0:Rho):List D→List Ob→Rm (List D)
 | [],S=>some ([],S)
 | d::ds,S=>match fe (ρ0.set 0 (.fz d)) S with
  | some (e,S')=>(match jB fe ρ0 ds S' with|some (es,S'')=>some (e::es,S'')|none=>none)
  | none=>none
def eCpM (fi:Rho→Rs (List D))(fe:Rho→List Ob→Rm D)(caps:List Nat):Rho→List Ob→Rm D:=fun ρ S=>match fi ρ with
 | .ok ds=>if ds.length≤1000000 then(match jB fe (xN 1 caps ρ) ds S with|some (es,S')=>some (.lst es,S')|none=>none) else none
 | _=>none
theorem turnsM {K:PySem.W.Frag}{cl:Nat→Addr}{kd:Kd}{p:List (Pt kd)}{qs qi:List (Nat×Hd)}{H F:Hp}{ρ:Rho}{σ:St}{S S2:List Ob}{x:Str}{caps:List Nat}{fe:Rho→List Ob→Rm D}{ds es:List D}{J:It}{G:Hp→Prop}{vs:List V}{Fn:List V→Hp→Prop}(R:RM K cl qs p ρ σ H F)(st:StM K cl F H p S)(hq:∀z∈qi,1≤z.1∧z.1 - 1<caps.length∧(caps.getD (z.1 - 1) 0,z.2)∈qs)(W:Wlk J G vs)(hG:∀H'',Same F H''→G H'')(dq:Dts K cl F vs ds)(hl:ds.length≤1000000)
  (hc:jB fe (xN 1 caps ρ) ds S=some (es,S2)) (k:∀ys H' F' p',Ex p p' F H F' H'→StM K cl F' H' p' S2→Dts K cl F' ys es→Fn ys H'):zam (wC 0) v8 (tEm K cl kd qi fe) (zbC [x] caps σ) Fn J H:=by
 have hz:vs.length≤sizeLine:=sz6 (dq.length▸hl)
 refine jP W hz (fun i ys H'=>∃F' S' p' es1 es2,Ex p p' F H F' H'∧StM K cl F' H' p' S'∧Dts K cl F' ys es1∧ys.length≤i∧es=es1++es2∧jB fe (xN 1 caps ρ) (ds.drop i) S'=some (es2,S2)) ⟨F,S,p,[],es,Ex.of (Gr.refl R.fh),st,.nil,Nat.le_refl _,rfl,hc⟩ (fun i ys H' _ ⟨F',_,_,_,_,g,_,_,h1,_⟩=>⟨hG H' (g.ff.trans g.fh),h1⟩) ?_ ?_
 ·rintro i v ys H' hv ⟨F',S',p',es1,es2,g,st',q1,hly,rfl,hc'⟩
  obtain⟨d,hd,qd⟩:=dq.get hv
  have hdr:ds.drop i=d::ds.drop (i+1):=by
   obtain⟨hk,e2⟩:=List.getElem?_eq_some_iff.mp hd
   rw[List.drop_eq_getElem_cons hk,e2]
  rw[hdr] at hc'
  unfold jB at hc'
  have R2:RM K cl qi p' ((xN 1 caps ρ).set 0 (.fz d)) ((zbC [x] caps σ).set 0 (some v)) H' F':=((R.ex g).cap x caps hq).set (fun z hz=>by have:=(hq z hz).1;omega) (qd.mono g.ff)
  refine⟨Kps.set rfl,?_⟩
  dsimp only [v8]
  rw[if_pos rfl]
  refine⟨p',_,F',S',R2,st',?_⟩
  cases e2:fe ((xN 1 caps ρ).set 0 (.fz d)) S' with
  | none=>rw[e2] at hc';cases hc'
  | some r =>
   obtain⟨e,S3⟩:=r
   rw[e2] at hc'
   dsimp only at hc'
   intro y H3 F3 p3 g3 st3 qy
   cases e3:jB fe (xN 1 caps ρ) (ds.drop (i+1)) S3 with
   | none=>rw[e3] at hc';cases hc'
   | some r3 =>
    obtain⟨es3,S4⟩:=r3
    rw[e3] at hc'
    have hh:=Option.some.inj hc'
    injection hh with h1 h2
    exact⟨F3,S3,p3,es1++[e],es3,g.trans g3,st3,(q1.mono g3.ff).append (.cons qy .nil),by simp;exact hly,by rw[← h1,List.append_assoc];rfl,by rw[e3,h2]⟩
 ·rintro ys H' ⟨F',S',p',es1,es2,g,st',q1,hly,rfl,hc'⟩
  rw[List.drop_of_length_le (by rw[dq.length];exact Nat.le_refl _)] at hc'
  have hh:=Option.some.inj hc'
  injection hh with h1 h2
  rw[← h1,List.append_nil] at k
  rw[h2] at st'
  exact k ys H' F' p' g st' q1
structure CompQ (X:Cx)(cl:Nat→Addr)(kd:Kd)(qi:List (Nat×Hd))(scope:Scope)(x:Str)(caps:List Nat)(tg:Expr)(elt:Expr)(fe:Rho→List Ob→Rm D):Prop where
 tgt:∀pins C ex s H,PG (cxC X pins scope [x] caps C ex s H) tg (wC 0)
 elm:∀pins C ex s H,XEm (cxC X pins scope [x] caps C ex s H) cl kd qi elt fe
theorem xsm_comp {X:Cx}{cl:Nat→Addr}{kd:Kd}{qs qi:List (Nat×Hd)}{i:Nat}{E:XK}{scope:Scope}{x y:Str}{caps:List Nat}{elt tg iter:Expr}{fi:Rho→Rs (List D)}{fe:Rho→List Ob→Rm D}{pos py spos:Pos}(hq:∀z∈qi,1≤z.1∧z.1 - 1<caps.length∧(caps.getD (z.1 - 1) 0,z.2)∈qs)(ne:∀x∈qs,i≠x.1)(hN:X.N.Nodup)(hjj:X.N[i]? = some y)(hy:X.env.scope.names.lookup y=some .local)(ok:CompOk X scope caps)(hc:X.calm=true)(hi:XI X cl E tg iter fi)(CI:CompQ X cl kd qi scope x caps tg elt fe)
  (hsw:swapsWith (.ListComp elt [⟨tg,iter,[],0⟩] scope pos) (some (.Name y py)) spos.line X.env=pure true) (hs:∀x,foldedSetIterable iter X.env x=pure x:=by intro _;rfl):XSm X cl kd qs (.Assign [.Name y py] (.ListComp elt [⟨tg,iter,[],0⟩] scope pos) spos) (zdU i (eCpM fi fe caps)):=by
 have ci:CompIn X scope [x] caps tg [] elt (wC 0) v8 (tEm X.K cl kd qi fe):=⟨CI.tgt,fun pins C ex s H=>zd4,CI.elm⟩
 intro pins s σ H Dn I ⟨p0,p,H0,F0,ρ,F,S,fs,o⟩
 refine zd2 hN hjj hy ok hc hi ci hsw hs pins s σ H Dn I ⟨F,F,ρ,F,fs.rs.rl,?_⟩
 unfold zdU eCpM at o
 cases e:fi ρ with
 | ok ds =>
  rw[e] at o
  dsimp only at o
  intro J G vs H1 F1 g W hG dq
  by_cases hl:ds.length≤1000000
  ·rw [if_pos hl] at o
   cases e2:jB fe (xN 1 caps ρ) ds S with
   | none=>rw[e2] at o;exact o.elim
   | some r =>
    obtain⟨es,S'⟩:=r
    rw[e2] at o
    have x1:Ex p p F H F1 H1:=Ex.of g
    refine turnsM (fs.rs.ex x1) (fs.st.grow g) hq W hG dq hl e2 fun ys H' F' p' g' st' w'=>?_
    intro c hc
    have gn:Gr F' H' (upd F' c (.lst ys)) (upd H' c (.lst ys)):=Gr.new g'.fh hc
    exact o _ _ _ p' (((fs.grow x1 (fs.st.grow g)).grow (g'.trans (Ex.of gn)) (st'.grow gn)).set ne (.lst (.inl (.inl zM)) (Dts.mono w' gn.ff))) (x1.fp.trans (g'.trans (Ex.of gn)).fp)
  ·rw[if_neg hl] at o;exact o.elim
 | ex n=>rw[e] at o;exact o.elim
 | no=>rw[e] at o;exact o.elim
def newL (n:Nat)(ini:List D→Option Ob)(fs:Rho→Rs (List D))(ρ0:Rho):List D→Option (List Ob)
 | []=>some []
 | d::ds=>match fs (ρ0.set 0 (.fz d)) with
  | .ok as=>if as.length+1=n then(match ini as with|some T=>(match newL n ini fs ρ0 ds with|some Ts=>some (T::Ts)|none=>none)|none=>none) else none
  | _=>none
theorem newL_get {n:Nat}{ini:List D→Option Ob}{fs:Rho→Rs (List D)}{ρ0:Rho}:∀{ds:List D}{Ts:List Ob},newL n ini fs ρ0 ds=some Ts→Ts.length=ds.length∧∀(i:Nat) d,ds[i]? = some d→∃as T,fs (ρ0.set 0 (.fz d))=.ok as∧as.length+1=n∧ini as=some T∧Ts[i]? = some T
 | [],Ts,h=>by cases h;exact⟨rfl,fun i d e=>by simp at e⟩
 | d :: ds,Ts,h=>by
  unfold newL at h
  cases e1:fs (ρ0.set 0 (.fz d)) with
  | ok as =>
   rw[e1] at h
   dsimp only at h
   by_cases hn:as.length+1=n
   ·rw [if_pos hn] at h
    cases e2:ini as with
    | none=>rw[e2] at h;cases h
    | some T =>
     rw[e2] at h
     dsimp only at h
     cases e3:newL n ini fs ρ0 ds with
     | none=>rw[e3] at h;cases h
     | some Ts' =>
      rw[e3] at h
      cases h
      obtain⟨h1,h2⟩:=newL_get e3
      refine⟨by simp[h1],fun i d' e=>?_⟩
      cases i with
      | zero=>simp at e;subst e;exact⟨as,T,e1,hn,e2,rfl⟩
      | succ i=>exact h2 i d' (by simpa using e)
   ·rw[if_neg hn] at h;cases h
  | ex n=>rw[e1] at h;cases h
  | no=>rw[e1] at h;cases h
def yMkL (q n j:Nat)(js:List Nat)(ini:List D→Option Ob)(fi fs:Rho→Rs (List D))(caps:List Nat)(g:Rho→List Ob→Om):Rho→List Ob→Om:=fun ρ Ss=>match fi ρ with
 | .ok ds=>if ds.length≤1000000∧Ss.length=j∧ds.length=js.length then(match newL n ini fs (xN 1 caps ρ) ds with|some Ts=>g (ρ.set q .no) (Ss++Ts)|none=>.no) else .no
 | _=>.no
structure CompK (X:Cx)(cl:Nat→Addr)(kd:Kd)(ini:List D→Option Ob)(n:Nat)(E1:XK)(scope:Scope)(x:Str)(caps:List Nat)(tg:Expr)(elt:Expr)(fs:Rho→Rs (List D)):Prop where
 tgt:∀pins C ex s H,PG (cxC X pins scope [x] caps C ex s H) tg (wC 0)
 elm:∀pins C ex s H,PE (cxC X pins scope [x] caps C ex s H) elt (tMake kd.C (spI X.K cl kd ini n) [] E1 (tDA X.K cl E1 fs))
theorem range_at {j i:Nat}{js:List Nat}(hjs:js=List.range' j js.length)(hi:i<js.length):js[i]? = some (j+i):=by
 rw[hjs,List.getElem?_range' (by simpa using hi)];simp
theorem mk_cell {X:Cx}{cl:Nat→Addr}{kd:Kd}{q n:Nat}{E E1:XK}{scope:Scope}{x y:Str}{caps:List Nat}{elt tg iter:Expr}{fi fs:Rho→Rs (List D)}{ini:List D→Option Ob}{pos py spos:Pos}(hN:X.N.Nodup)(hjj:X.N[q]? = some y)(hy:Loc X.env.scope y)(ok:CompOk X scope caps)(hc:X.calm=true)(hi:XI X cl E tg iter fi)(CI:CompK X cl kd ini n E1 scope x caps tg elt fs)
  (hsw:swapsWith (.ListComp elt [⟨tg,iter,[],0⟩] scope pos) (some (.Name y py)) spos.line X.env=pure false) (hf:X.fn y=true∨X.env.scope.names.lookup y=some .local) (hs:∀x,foldedSetIterable iter X.env x=pure x:=by intro _;rfl):PS X (.Assign [.Name y py] (.ListComp elt [⟨tg,iter,[],0⟩] scope pos) spos) (sComp q (tDI X.K cl E fi) (wC 0) v8 (tMake kd.C (spI X.K cl kd ini n) [] E1 (tDA X.K cl E1 fs)) [x] caps):=by
 have ci:CompIn X scope [x] caps tg [] elt (wC 0) v8 (tMake kd.C (spI X.K cl kd ini n) [] E1 (tDA X.K cl E1 fs)):=⟨CI.tgt,fun pins C ex s H=>zd4,CI.elm⟩
 exact zb5 hN hjj hy (zcr ok hc hi ci hs) hsw hf
theorem xssm_makeL {X:Cx}{cl:Nat→Addr}{kd:Kd}{qs:List (Nat×Hd)}{q n j:Nat}{js:List Nat}{E E1:XK}{st:Stmt}{x y:Str}{caps:List Nat}{fi fs:Rho→Rs (List D)}{ini:List D→Option Ob}{g:Rho→List Ob→Om}{rest:List Stmt}(hjs:js=List.range' j js.length)(ne:∀x∈qs,q≠x.1)(hjj:X.N[q]? = some y)(hps:PS X st (sComp q (tDI X.K cl E fi) (wC 0) v8 (tMake kd.C (spI X.K cl kd ini n) [] E1 (tDA X.K cl E1 fs)) [x] caps))(hrest:XSsm X cl kd (qs++[(q,.l js)]) rest g) :
  XSsm X cl kd qs (st::rest) (yMkL q n j js ini fi fs caps g):=by
 intro pins s σ H Dn I ⟨p0,p,H0,F0,ρ,F,S,fm,o⟩
 refine j4 hps hrest pins s σ H Dn I ⟨F,F,ρ,F,fm.rs.rl,?_⟩
 have qs':q<σ.length:=by rw[I.len];exact(List.getElem?_eq_some_iff.mp hjj).1
 unfold yMkL at o
 cases e:fi ρ with
 | ok ds =>
  rw[e] at o
  dsimp only at o
  intro J G vs H1 F1 gr W hG dq
  by_cases hl:ds.length≤1000000∧S.length=j∧ds.length=js.length
  ·rw [if_pos hl] at o
   cases e2:newL n ini fs (xN 1 caps ρ) ds with
   | none=>rw[e2] at o;exact o.elim
   | some Ts =>
    rw[e2] at o
    dsimp only at o
    obtain⟨tl,tg⟩:=newL_get e2
    refine jP W (sz6 (dq.length▸hl.1)) (fun i ys H'=>∃F' pn,Ex p (p++pn) F H F' H'∧Same F1 F'∧StM X.K cl F' H' (p++pn) (S++Ts.take i)∧pn.length=i∧ys=pn.map fun z=>V.ref z.a) ⟨F1,[],by rw[List.append_nil];exact Ex.of gr,Same.refl _,by rw[List.append_nil,List.take_zero,List.append_nil];exact fm.st.grow gr,rfl,rfl⟩ (fun i ys H' _ ⟨F',pn,g',ff,_,h1,h2⟩=>⟨hG H' (ff.trans g'.fh),by rw[h2,List.length_map,h1];exact Nat.le_refl _⟩) ?_ ?_
    ·rintro i v ys H' hvi ⟨F',pn,g',ff,st',h1,rfl⟩
     obtain⟨d,hd,qd⟩:=dq.get hvi
     obtain⟨as,T,a1,a2,a3,a4⟩:=tg i d hd
     have R2:=(((fm.rs.ex g').rl.cap [x] caps).here).set (i:=0) (qd.mono ff)
     refine⟨Kps.set rfl,?_⟩
     dsimp only [v8]
     rw[if_pos rfl]
     refine⟨F',F',(xN 1 caps ρ).set 0 (.fz d),F',R2,?_⟩
     rw[a1]
     intro us H2 F2 g2 w2
     intro xx dx nx ndx nex
     have st2:=st'.grow g2
     have fh1:=g2.fh
     have s1:Same H2 (upd (upd H2 dx (.own xx)) xx (.ins kd.C dx [])):=fun b o' eb=>by
      have z1:b≠xx:=fun z=>by rw[z,nx] at eb;cases eb
      have z2:b≠dx:=fun z=>by rw[z,ndx] at eb;cases eb
      rw[zJ z1,zJ z2];exact eb
     refine⟨xx,dx,us,F2,as,by rw[List.append_nil],by rw[Dts.length w2];exact a2,zM,fh1.free nx,fh1.trans s1,w2,?_⟩
     rw[a3]
     dsimp only
     intro pz H3 F3 pa pdx f3 fh3 hk hno hfr st
     have sub:∀b o',H2 b=some o'→H3 b=some o':=fun b o' eb=>hk b o' (s1 b o' eb) fun z=>by rw[z,nx] at eb;cases eb
     have no':∀b o',H2 b=some o'→o'.mu=true→F2 b=none→F3 b=none:=fun b o' eb m' w'=>hno b o' (s1 b o' eb) m' w'
     have fr:∀b,pz.cell b→H2 b=none:=fun b z=>by
      rcases z with rfl|⟨i,hi',rfl⟩
      ·rw[pa];exact nx
      ·exact s1.free (hfr i hi')
     have ex:Ex (p++pn) (p++pn++[pz]) F2 H2 F3 H3:=⟨List.prefix_append _ _,⟨f3,fun b o' eb _=>sub b o' eb,fh3,no',fun b o' _ eb m'=>⟨o',sub b o' eb,m'⟩⟩,fun b z=>by
      obtain⟨z1,h1,h2⟩:=z
      rcases List.mem_append.mp h1 with h1|h1
      ·exact .inl ⟨z1,h1,h2⟩
      ·rw[List.mem_singleton.mp h1] at h2;exact .inr (fr b h2)⟩
     have stn:=st2.new f3 sub no' fr st
     have tk:Ts.take (i+1)=Ts.take i++[T]:=by rw[List.take_add_one,a4];rfl
     refine⟨rfl,F3,pn++[pz],?_,ff.trans (g2.ff.trans f3),?_,by simp[h1],by rw[List.map_append,← pa];rfl⟩
     ·rw[← List.append_assoc];exact g'.trans ((Ex.of g2).trans ex)
     ·rw[← List.append_assoc,tk,← List.append_assoc];exact stn
    ·rintro ys H' ⟨F',pn,g',ff,st',h1,rfl⟩
     rw[List.take_of_length_le (by rw[tl,dq.length];exact Nat.le_refl _)] at st'
     intro c hc
     have gn:Gr F' H' (upd F' c (.lst (pn.map fun z=>V.ref z.a))) (upd H' c (.lst (pn.map fun z=>V.ref z.a))):=Gr.new g'.fh hc
     have f2:=(fm.grow g' st').grow (Ex.of gn) (st'.grow gn)
     have pl:pn.length=js.length:=by rw[h1,dq.length];exact hl.2.2
     have hv:Hold X.K (upd F' c (.lst (pn.map fun z=>V.ref z.a))) (p++pn) (.ref c) (.l js):=⟨c,_,rfl,.inl (.inl zM),by rw[List.length_map];exact pl,fun k w hw=>by
      rw[List.getElem?_map] at hw
      cases e5:pn[k]? with
      | none=>rw[e5] at hw;cases hw
      | some z =>
       rw[e5] at hw
       have hw':=Option.some.inj hw
       have kl:=(List.getElem?_eq_some_iff.mp e5).1
       refine⟨j+k,z,range_at hjs (by omega),?_,hw'.symm⟩
       have pj:p.length=j:=by rw[fm.st.len];exact hl.2.1
       rw[List.getElem?_append_right (by omega),show j+k - p.length=k from by omega];exact e5⟩
     exact⟨p0,p++pn,H0,F0,ρ.set q .no,_,S++Ts,f2.hold hv ne qs',o.more (g'.fp.trans (Ex.of gn).fp)⟩
  ·rw[if_neg hl] at o;exact o.elim
 | ex n=>rw[e] at o;exact o.elim
 | no=>rw[e] at o;exact o.elim
theorem xe2_join {X:Cx}{cl:Nat→Addr}{kd:Kd}{q:Nat}{E:XK}{b e:Expr}{fa:Rho→Ob→Ro D}{apos cpos:Pos}(hb:XE X cl E b (fC (.str [])))(he:XE2 X cl kd q e fa)(m:Mth X b e "join" apos cpos):XE2 X cl kd q (.Call (.Attribute b "join" apos) [e] [] cpos) (e1 (vJ (.str [])) fa):=by
 intro pins s σ H Q I ⟨p,ρ,F,S,R,st,oo⟩
 refine zeq PySem.F.plainAttrs_str PySem.F.slot_str_join PySem.F.type_str_join zea hb (xK he uD m.hs) m.base m.few m.line m.hs m.plain pins s σ H Q I ⟨F,F,ρ,F,R.rl,fun w H1 F2 g2 w2=>?_⟩
 cases w2 with
 | str _ ok =>
  have oo':OE2 X.K cl p F2 H1 (e1 (vJ (.str [])) fa ρ S) Q:=by
   cases e5:e1 (vJ (.str [])) fa ρ S with
   | none=>rw[e5] at oo;exact oo
   | some r=>obtain⟨d,S5⟩:=r;rw[e5] at oo;exact fun v H' F' g st' w=>oo v H' F' (g2.grS.trans g) st' w
  refine⟨rfl,p,ρ,F2,S,R.grow g2.grS,st.grow g2,oo'.bd fun d v H3 F3 S3 g3 st3 w3 o3=>?_⟩
  obtain⟨z,hz,k⟩:=o3.end_ st3
  cases w3 with
  | lst sq dq =>
   rename_i ds
   dsimp only [vJ] at hz
   split at hz
   ·rename_i h
    obtain rfl:=Option.some.inj hz
    obtain⟨x1,x2,x3⟩:=dq.texts h.1
    rw[x1] at sq
    refine⟨_,ds.map unS,rfl,rfl,g3.fh.seq sq,h.2,k _ H3 F3 (Gr.refl g3.fh) (.str _ (jL (fun c hc=>?_) h.2))⟩
    obtain⟨y,hy,hc⟩:=List.mem_flatten.mp hc
    have a:(T y).cps.all (· < 0x110000)=true:=(x2 y hy).1
    simp only[T,List.all_toArray,List.all_eq_true,decide_eq_true_eq] at a
    exact a c hc
   ·cases hz
  | _=>cases hz
end L2
namespace L2
open PySem PySem.Spec PyProof.Rows
inductive Mz (K:PySem.W.Frag)(C:Addr)(x q:Str)(st:Stmt):Prop
 | mk {f:Addr}{oc kV dc pm cd ct:Value}{od an:Option Addr}{sl:Array (Option Value)} (a:PySem.W.findIn K (.ref C) x=some (some (.ref f))) (i:PySem.W.isFn K (.ref f)=true) (l:K.lookup f=some ⟨oc,od,.func (PySem.W.fnOf x q (qN st) (wH st) (zu st) .none kV dc pm an cd ct),sl⟩) (c:PySem.W.codeIn K cd q=true) (k:PySem.W.keepIn K (.ref f)=true):Mz K C x q st
theorem Mz.md {K:PySem.W.Frag}{C:Addr}{x q:Str}{st:Stmt}(z:Mz K C x q st)(ps:List Str)(hb:∀(kV doc pm:Value) (an:Option Addr) (cdv ct:Value) (us:List Value),us.length=ps.length→bindArgs (PySem.W.fnOf x q (qN st) (wH st) (zu st) .none kV doc pm an cdv ct) ⟨us,[]⟩=pure (ps.zip us)):Nonempty (Md K C x q st ps):=by
 obtain⟨a,i,l,c,k⟩:=z
 exact⟨⟨_,_,zc9 l c k,⟨a,i,k⟩,(zc9 l c k).binds hb⟩⟩
end L2
set_option maxHeartbeats 4000000
namespace K64
open PySem L2 PyProof.Rows
open My
open Pg
def zA (C:Addr):Kd:=⟨C,["many", "chosen", "done", "rests", "undone"],[2,3,4]⟩
def u6:Rho→Ob→O2 :=
  (zRet (oL 3 fun ds=>ixD (.lst ds) (.int (-1))))
def yx:List D→Ob→Ro D:=zcY 1 0 u6
def wQ:Rho→Ob→O2 :=
  (zSeq (zSet 2 (eA (ari 2 uG) (cC (oD 1) (cC (e2 jD (eM0 yx) (up (fNm 1))) cN))))
  (zSeq (zc7 (oApp 2 (up (fNm 1))))
  (zSeq (zc7 (oApp 3 (up (f2 ixD (fNm 2) (fC (.int 1))))))
  (zRet (up (f2 ixD (fNm 2) (fC (.int 0))))))))
def vz:List D→Ob→Ro D:=zcY 3 0 wQ
def w6:Rho→Ob→O2 :=
  (zSeq (zc7 (eA (ari 2 zV) (cC (oD 0) (cC (up (fNm 1)) cN))))
  (zSeq (zc7 (oClr 4))
  (zRet (eM 2 vz (up (zf (fNm 1) zF))))))
def yh:List D→Ob→Ro D:=zcY 2 0 w6
def xH:Rho→Ob→Option Ob :=
  (iSeq (iX (fA (ari 2 zT) (zf (fNm 1) (zf (fNm 2) zF))))
  (iSeq (iDt 0 (fNm 1))
  (iSeq (iDt 1 (fNm 2))
  (iSeq (iLs 2 zF)
  (iSeq (iLs 3 (zf (fC (.str [])) zF))
  (iLs 4 zF))))))
def uE:List D→Option Ob:=runI 3 (zA 0) xH
def uN:Rho→Ob→O2 :=
  (zRet (oL 2 fun ds=>vJ (.str []) (.lst ds)))
def yw:List D→Ob→Ro D:=zcY 1 0 uN
def ug:Rho→Ob→O2 :=
  (zRet (e2 ixD (eA (ari 2 uG) (cC (oD 1) (cC (eM0 yw) cN))) (up (fC (.int 0)))))
def zO:List D→Ob→Ro D:=zcY 1 0 ug
def vH:Rho→Ob→O2 :=
  (zRet (e2 ixD (eA (ari 2 qJ) (cC (oD 1) (cC (eM0 yw) cN))) (up (fC (.int 0)))))
def yr:List D→Ob→Ro D:=zcY 1 0 vH
def uo:Rho→Ob→O2 :=
  (zRet (eO mkT (cC (oL 2 fun ds=>qp [.lst ds]) (cC (oL 4 fun ds=>qp [.lst ds]) cN))))
def yG:List D→Ob→Ro D:=zcY 1 0 uo
def g_law:Rho→Out :=
  (runMo (zay (zdU 1 (upM (f2 uy (fC (.int 2)) (fA (ari 3 zH) (zf (fNm 0) (zf (fC (.int 0)) (zf (fC (.int 3)) zF)))))))
  (zay (zdU 2 (upM (fA (ari 4 vW) (zf (fNm 0) (zf (fC (.int 20)) (zf (fNm 1) (zf (fA (ari 3 zH) (zf (fNm 0) (zf (fC (.int 1)) (zf (fC (.int 5)) zF)))) zF)))))))
  (zay (zdU 3 (upM (fA (ari 4 xR) (zf (fNm 0) (zf (fC (.int 40)) (zf (fNm 1) (zf (fC (.int 20)) zF)))))))
  (yMkL 4 3 0 [0,1,2] uE (fR zdT (zf (fC (.int 3)) zF)) (zf (fNm 1) (zf (fNm 2) zF)) [1,2]
  (zay (yIf (bBM (e2M (eqD true) (eMM 0 2 yh (upM (zf (fNm 3) zF))) (eMM 0 1 zO nM)))
  (zdx (upM (fC (.bl false))))
  yNx)
  (zay (zdU 5 (upM (fC (.str []))))
  (zay (yForI 6 (upM (fI sgD (fNm 3)))
  (zdU 5 (e2M jD (upM (fNm 5)) (eMM 1 2 yh (upM (zf (fNm 6) zF))))))
  (zay (zdU 7 (upM (fA (ari 3 zH) (zf (fNm 0) (zf (fC (.int 2)) (zf (f2 uy (fO qp (zf (fNm 3) zF)) (fC (.int 1))) zF))))))
  (zay (zdU 8 (eCpM (fI tpD (fO mkT (zf (fSl (fNm 3) xO (yR (fNm 7))) (zf (fC (.str [])) (zf (fSl (fNm 3) (yR (fNm 7)) xO) zF))))) (eMM 2 2 yh (upM (zf (fNm 0) zF))) [4]))
  (zay (yIf (bOM (upM (bT (f2 (eqD true) (f2 ixD (fNm 8) (fC (.int 1))) (fC (.str []))))) (bOM (upM (bT (f2 (eqD true) (fM isS vJ (fC (.str [])) (fNm 8)) (fNm 5)))) (bBM (e2M (eqD true) (upM (fNm 5)) (eMM 0 1 zO nM)))))
  (zdx (upM (fC (.bl false))))
  yNx)
  (zay (ySet2 9 10 (upM (fA (ari 3 zb3) (zf (fNm 1) (zf (fNm 2) (zf (fNm 3) zF))))))
  (zay (forO 11 (fun j=>(zay (yIf (bBM (e2M (eqD true) (oneM j (eO mkT (cC (eM0 zO) (cC (eM0 yx) (cC (eM0 yw) cN))))) (upM (fO mkT (zf (fNm 9) (zf (fNm 10) (zf (fNm 3) zF)))))))
  (zdx (upM (fC (.bl false))))
  yNx)
  (zay (yIf (bBM (e2M (eqD true) (oneM j (eM0 yr)) (upM (f2 ixD (fA (ari 3 zdO) (zf (fNm 1) (zf (fNm 2) (zf (fNm 3) zF)))) (fC (.int 0))))))
  (zdx (upM (fC (.bl false))))
  yNx)
  (zay (yIf (bBM (e2M (eqD true) (oneM j (e2 jD (eA (ari 3 zaY) (cC (up (fNm 1)) (cC (up (fNm 2)) (cC (eM0 zO) cN)))) (eM0 yx))) (upM (fNm 3))))
  (zdx (upM (fC (.bl false))))
  yNx)
  (yIf (bBM (e2M (eqD true) (oneM j (e2 jD (e1 (vJ (.str [])) (eM0 yr)) (up (fNm 10)))) (upM (fNm 3))))
  (zdx (upM (fC (.bl false))))
  yNx)))))
  [0,1,2])
  (zay (yIf (bBM (e2M (eqD true) (yCp [0,1,2] (eM0 yG) []) (upM (fO mkL (zf (fO mkT (zf (fC (.int 1)) (zf (fC (.int 0)) zF))) (zf (fO mkT (zf (fO qp (zf (fNm 3) zF)) (zf (fC (.int 0)) zF))) (zf (fO mkT (zf (fC (.int 3)) (zf (fC (.int 0)) zF))) zF)))))))
  (zdx (upM (fC (.bl false))))
  yNx)
  (zay (zdU 12 (upM (fA (ari 4 xR) (zf (fNm 0) (zf (fC (.int 70)) (zf (fNm 1) (zf (fC (.int 8)) zF)))))))
  (zay (zdU 13 (eMM 0 2 yh (upM (zf (fNm 12) zF))))
  (zay (yIf (bBM (e2M (eqD true) (eMM 0 1 zO nM) (upM (f2 ixD (fA (ari 3 zb3) (zf (fNm 1) (zf (fNm 2) (zf (f2 jD (fNm 3) (fNm 12)) zF)))) (fC (.int 0))))))
  (zdx (upM (fC (.bl false))))
  yNx)
  (zdx (eAndM (e2M (eqD false) (upM (f2 jD (fNm 9) (fNm 13))) (eMM 0 1 zO nM)) (e2M (eqD false) (eMM 1 1 yw nM) (upM (fNm 3))))))))))))))))))))))
def fn_law:List D→Rs D:=yJ 14 g_law
end K64
namespace K64
open PySem L2 My Pg
section
variable {α β:Type}{f fa fb:Rho→Ob→Ro D}{fs:Rho→Ob→Ro (List D)}{ft fu:Rho→Ob→Ro Bool}{ρ ρ':Rho}{S S1 S2:Ob}{a b d:D}{g h:Rho→Ob→O2}{i:Nat}
theorem zbr {f:Rho→Rs α}{a:α}(e:f ρ=.ok a):L2.up f ρ S=some (a,S):=by unfold L2.up;rw[e]
theorem zcl {f:Rho→Ob→Ro α}{k:α→Rho→Ob→Ro β}{a:α}{r:Ro β}(e:f ρ S=some (a,S1))(e2:k a ρ S1=r):b2 f k ρ S=r:=by unfold b2;rw[e];exact e2
theorem e2_ok {k:D→D→Option D}(h1:fa ρ S=some (a,S1))(h2:fb ρ S1=some (b,S2))(h3:k a b=some d):e2 k fa fb ρ S=some (d,S2):=zcl h1 (zcl h2 (by rw[h3];rfl))
theorem kJ {as:List D}(h1:fa ρ S=some (a,S1))(h2:fs ρ S1=some (as,S2)):cC fa fs ρ S=some (a::as,S2):=zcl h1 (zcl h2 rfl)
theorem eO_ok {k:List D→Option D}{ds:List D}(h1:fs ρ S=some (ds,S1))(h2:k ds=some d):eO k fs ρ S=some (d,S1):=zcl h1 (by rw[h2];rfl)
theorem eA_ok {k:List D→Rs D}{ds:List D}(h1:fs ρ S=some (ds,S1))(h2:k ds=.ok d):eA k fs ρ S=some (d,S1):=zcl h1 (by rw[h2];rfl)
theorem eM_ok {n:Nat}{k:List D→Ob→Ro D}{ds:List D}{r:Ro D}(h1:fs ρ S=some (ds,S1))(hl:ds.length+1=n)(h2:k ds S1=r):eM n k fs ρ S=r:=zcl h1 (by rw[if_pos hl];exact h2)
theorem zbk (e:g ρ S=.nx ρ' S1):zSeq g h ρ S=h ρ' S1:=by unfold zSeq;rw[e]
theorem zSet_ok (e:f ρ S=some (d,S1)):zSet i f ρ S=.nx (ρ.set i (.fz d)) S1:=by unfold zSet;rw[e]
theorem zaJ (e:f ρ S=some (d,S1)):zc7 f ρ S=.nx ρ S1:=by unfold zc7;rw[e]
theorem jt (e:f ρ S=some (d,S1)):zRet f ρ S=.rt d S1:=by unfold zRet;rw[e]
theorem jm {m j:Nat}{ds:List D}(e:g (rho0 m j ds) S=.rt d S1):zcY m j g ds S=some (d,S1):=by unfold zcY;rw[e]
theorem oL_ok {k:List D→Option D}{ds:List D}(h1:S[i]? = some (.ls ds))(h2:k ds=some d)(h3:d.fl=true):oL i k ρ S=some (d,S):=by
 unfold oL;rw[h1];show(match k ds with|some d=>if d.fl=true then some (d,S) else none|none=>none)=_;rw[h2];exact if_pos h3
theorem oApp_ok {ds:List D}(h1:fa ρ S=some (a,S1))(h2:S1[i]? = some (.ls ds))(hl:ds.length<1000000):oApp i fa ρ S=some (.non,S1.set i (.ls (ds++[a]))):=zcl h1 (by rw[h2];exact if_pos hl)
end
def st (m:Nat)(B dn rs ud:List (List Nat)):Ob:=[.dt (.int m),.dt (.tup (sT B)),.ls (sT dn),.ls (sT rs),.ls (sT ud)]
def rF (B dn:List (List Nat)):List (List Nat):=(List.range (dn.length+1)).map fun k=>(yd B (dn.take k).flatten).2
abbrev Qs (m:Nat)(B dn ud:List (List Nat)):Ob:=st m B dn (rF B dn) ud
def sg (B:List (List Nat))(l:List Nat):List Nat:=((yd B l).1.map (wd B)).flatten
theorem rF_init (B dn:List (List Nat)):∃L,rF B dn=L++[(yd B dn.flatten).2]:=by
 unfold rF
 rw[List.range_succ,List.map_append]
 exact⟨_,by rw[List.map_singleton,List.take_length]⟩
theorem rF_snoc (B dn:List (List Nat))(x:List Nat):rF B (dn++[x])=rF B dn++[(yd B (dn++[x]).flatten).2]:=by
 have e:rF B (dn++[x])=((List.range (dn.length+1)).map fun k=>(yd B ((dn++[x]).take k).flatten).2)++[(yd B (dn++[x]).flatten).2]:=by
  unfold rF
  rw[show(dn++[x]).length+1=(dn.length+1)+1 from by simp,List.range_succ (n:=dn.length+1),List.map_append,List.map_singleton,List.take_of_length_le (by simp)]
 rw[e]
 congr 1
 unfold rF
 refine List.map_congr_left fun k hk=>?_
 have:=List.mem_range.mp hk
 rw[List.take_append_of_le_length (by omega)]
theorem at_last (L:List (List Nat))(x:List Nat):ixD (.lst (sT (L++[x]))) (.int (-1))=some (.str x):=by
 show atI (sT (L++[x])) (-1)=_
 unfold atI
 have:ixN (sT (L++[x])).length (-1)=some L.length:=by
  rw[yC,List.length_append,List.length_singleton]
  unfold ixN
  rw[if_neg (by omega),if_pos (by omega)]
  congr 1
  omega
 rw[this,← zb7]
 show(sT L++[D.str x])[L.length]? = _
 rw[List.getElem?_append_right (by rw[yC];exact Nat.le_refl _),yC,Nat.sub_self];rfl
section
variable {m:Nat}{B dn ud:List (List Nat)}{x:List Nat}
theorem left_eq:yx [] (Qs m B dn ud)=some (.str (yd B dn.flatten).2,Qs m B dn ud):=by
 obtain⟨L,e⟩:=rF_init B dn
 exact jm (jt (oL_ok (ds:=sT (rF B dn)) rfl (by rw[e];exact at_last L _) rfl))
theorem zaN (hl:dn.flatten.length≤900):yw [] (Qs m B dn ud)=some (.str dn.flatten,Qs m B dn ud) :=
 jm (jt (oL_ok (ds:=sT dn) rfl (by dsimp only [vJ];rw[jy,if_pos ⟨jf _,by omega⟩]) rfl))
theorem led_ok (h:Bb m B){l:List Nat}(hl:l.length≤900):uG [.tup (sT B),.str l]=.ok (.tup [.str (sg B l),.str (yd B l).2]):=zdD h.l32 (strict h.bk.srt h.bk.nd) (by omega)
theorem ari2 {fn:List D→Rs D}{a b:D}{r:Rs D}(e:fn [a,b]=r):ari 2 fn [a,b]=r:=(if_pos rfl).trans e
theorem zct (h:Bb m B)(hl:dn.flatten.length≤900):zO [] (Qs m B dn ud)=some (.str (sg B dn.flatten),Qs m B dn ud) :=
 jm (jt (e2_ok (eA_ok (ds:=[.tup (sT B),.str dn.flatten]) (kJ (a:=.tup (sT B)) (S1:=Qs m B dn ud) rfl (kJ (a:=.str dn.flatten) (S1:=Qs m B dn ud) (zaN hl) rfl)) (ari2 (led_ok h hl))) (zbr (a:=.int 0) rfl) rfl))
theorem pieces_eq (hl:dn.flatten.length≤900):yr [] (Qs m B dn ud)=some (.lst (sT (yd B dn.flatten).1),Qs m B dn ud) :=
 jm (jt (e2_ok (eA_ok (ds:=[.tup (sT B),.str dn.flatten]) (kJ (a:=.tup (sT B)) (S1:=Qs m B dn ud) rfl (kJ (a:=.str dn.flatten) (S1:=Qs m B dn ud) (zaN hl) rfl)) (ari2 (zbb (by omega)))) (zbr (a:=.int 0) rfl) rfl))
theorem zcQ:yG [] (Qs m B dn ud)=some (.tup [.int dn.length,.int ud.length],Qs m B dn ud) :=
 jm (jt (eO_ok (ds:=[.int dn.length,.int ud.length]) (kJ (S1:=Qs m B dn ud) (oL_ok (ds:=sT dn) rfl (by show some (D.int ((sT dn).length:Int))=_;rw[yC]) rfl) (kJ (S1:=Qs m B dn ud) (oL_ok (ds:=sT ud) rfl (by show some (D.int ((sT ud).length:Int))=_;rw[yC]) rfl) rfl)) rfl))
theorem cut_flat (B dn:List (List Nat))(x:List Nat):yd B (dn++[x]).flatten=((yd B dn.flatten).1++(yd B ((yd B dn.flatten).2++x)).1,(yd B ((yd B dn.flatten).2++x)).2):=by
 rw[List.flatten_append,List.flatten_singleton];exact cut_app B _ _
theorem zcW (B dn:List (List Nat))(x:List Nat):sg B (dn++[x]).flatten=sg B dn.flatten++sg B ((yd B dn.flatten).2++x):=by
 unfold sg
 rw[cut_flat,List.map_append,List.flatten_append]
theorem go_on_eq (h:Bb m B)(hl:dn.flatten.length+x.length≤900)(hd:dn.length≤900):vz [.str x] (Qs m B dn ud)=some (.str (sg B ((yd B dn.flatten).2++x)),Qs m B (dn++[x]) ud):=by
 have l2:=(uZ B dn.flatten).2
 have l3:((yd B dn.flatten).2++x).length≤900:=by rw[List.length_append];omega
 have rl:(rF B dn).length≤1000:=by unfold rF;simp;omega
 refine jm ?_
 show wQ [.no,.fz (.str x),.no] (Qs m B dn ud)=_
 refine(zbk (zSet_ok (d:=.tup [.str (sg B ((yd B dn.flatten).2++x)),.str (yd B ((yd B dn.flatten).2++x)).2]) (eA_ok (ds:=[.tup (sT B),.str ((yd B dn.flatten).2++x)]) (S1:=Qs m B dn ud) (kJ (a:=.tup (sT B)) (S1:=Qs m B dn ud) rfl (kJ (S1:=Qs m B dn ud) (e2_ok (S1:=Qs m B dn ud) (b:=.str x) left_eq (zbr rfl) (if_pos (by rw[List.length_append] at l3;omega))) rfl)) (ari2 (led_ok h l3))))).trans ?_
 refine(zbk (zaJ (oApp_ok (a:=.str x) (ds:=sT dn) (zbr rfl) rfl (by rw[yC];omega)))).trans ?_
 refine(zbk (zaJ (oApp_ok (a:=.str (yd B ((yd B dn.flatten).2++x)).2) (ds:=sT (rF B dn)) (zbr rfl) rfl (by rw[yC];omega)))).trans ?_
 refine(jt (zbr (a:=.str (sg B ((yd B dn.flatten).2++x))) rfl)).trans ?_
 have e1:sT dn++[D.str x]=sT (dn++[x]):=zb7 dn [x]
 have e2:sT (rF B dn)++[D.str (yd B ((yd B dn.flatten).2++x)).2]=sT (rF B (dn++[x])):=by
  rw[rF_snoc,← zb7,cut_flat];rfl
 show O2.rt _ [.dt (.int m),.dt (.tup (sT B)),.ls (sT dn++[D.str x]),.ls (sT (rF B dn)++[D.str (yd B ((yd B dn.flatten).2++x)).2]),.ls (sT ud)]=_
 rw[e1,e2];rfl
theorem j8 (h:Bb m B)(hx:LetOk m x)(hl:dn.flatten.length+x.length≤900)(hd:dn.length≤900):yh [.str x] (Qs m B dn ud)=some (.str (sg B ((yd B dn.flatten).2++x)),Qs m B (dn++[x]) []):=by
 refine jm ?_
 show w6 [.no,.fz (.str x)] (Qs m B dn ud)=_
 refine(zbk (zaJ (eA_ok (ds:=[.int m,.str x]) (S1:=Qs m B dn ud) (kJ (a:=.int m) (S1:=Qs m B dn ud) rfl (kJ (a:=.str x) (S1:=Qs m B dn ud) (zbr rfl) rfl)) (ari2 (vm h.bk.m4 hx (by omega)))))).trans ?_
 refine(zbk (zaJ (d:=.non) (S1:=Qs m B dn []) rfl)).trans ?_
 exact jt (eM_ok (ds:=[.str x]) (S1:=Qs m B dn []) (zbr rfl) rfl (go_on_eq h hl hd))
theorem dep1 (i j:Int):(D.tup [.int i,.int j]).py.depth≤1:=dep_tup (n:=0) fun d hd=>by simp only[List.mem_cons,List.not_mem_nil,or_false] at hd;rcases hd with rfl|rfl <;>exact Nat.le_refl 0
theorem vd (l:List Nat)(neg:Bool):eqD neg (.str l) (.str l)=some (.bl (!neg)):=(zd1 neg l l).trans (by cases neg <;>simp)
theorem ini_eq (h:Bb m B):uE [.int m,.tup (sT B)]=some (Qs m B [] []):=by
 have e:xH (rho0 3 0 [.int m,.tup (sT B)]) []=some (Qs m B [] []):=by
  have e1:fA (ari 2 zT) (zf (fNm 1) (zf (fNm 2) zF)) [.no,.fz (.int m),.fz (.tup (sT B))]=.ok .non:=cA2 (a:=.int m) (b:=.tup (sT B)) rfl rfl (wk h.pcs h.isB)
  show iSeq (iX (fA (ari 2 zT) (zf (fNm 1) (zf (fNm 2) zF)))) _ [.no,.fz (.int m),.fz (.tup (sT B))] []=_
  unfold iSeq iX
  rw[e1];rfl
 unfold uE runI
 rw[e]
 refine if_pos ⟨rfl,fun i hi=>?_,fun i hi=>?_⟩
 ·have:i∈([2,3,4]:List Nat):=hi
  show i<5
  simp at this;omega
 ·have h5:i<5:=hi
  have:i=0∨i=1∨i=2∨i=3∨i=4:=by omega
  rcases this with rfl|rfl|rfl|rfl|rfl <;>rfl
section
variable {α β:Type}{f fa fb:Rho→List Ob→Rm D}{fs:Rho→List Ob→Rm (List D)}{ft fu:Rho→List Ob→Rm Bool}{ρ ρ':Rho}{S S1 S2:List Ob}{T T1:Ob}{a b d:D}{g h:Rho→List Ob→Om}{i j:Nat}
theorem yI {f:Rho→Rs α}{a:α}(e:f ρ=.ok a):upM f ρ S=some (a,S):=by unfold upM;rw[e]
theorem oneM_ok {f:Rho→Ob→Ro α}{a:α}(h:S[j]? = some T)(e:f ρ T=some (a,T1)):oneM j f ρ S=some (a,S.set j T1):=by
 unfold oneM;rw[h];show(match f ρ T with|some (a,S')=>some (a,S.set j S')|none=>none)=_;rw[e]
theorem m2_ok {f:Rho→List Ob→Rm α}{k:α→Rho→List Ob→Rm β}{a:α}{r:Rm β}(e:f ρ S=some (a,S1))(e2:k a ρ S1=r):m2 f k ρ S=r:=by unfold m2;rw[e];exact e2
theorem qH {k:D→D→Option D}(h1:fa ρ S=some (a,S1))(h2:fb ρ S1=some (b,S2))(h3:k a b=some d):e2M k fa fb ρ S=some (d,S2):=m2_ok h1 (m2_ok h2 (by rw[h3];rfl))
theorem jH {c:Bool}(h1:fa ρ S=some (.bl c,S1)):bBM fa ρ S=some (c,S1):=m2_ok h1 rfl
theorem bOM_ff {c:Bool}(h1:ft ρ S=some (false,S1))(h2:fu ρ S1=some (c,S2)):bOM ft fu ρ S=some (c,S2):=m2_ok h1 (by rw[if_neg Bool.false_ne_true];exact h2)
theorem eAndM_ok {r:Rm D}(h1:fa ρ S=some (.bl true,S1))(h2:fb ρ S1=r):eAndM fa fb ρ S=r:=m2_ok (jH h1) (by rw[if_pos rfl];exact h2)
theorem yU (e:g ρ S=.nx ρ' S1):zay g h ρ S=h ρ' S1:=by unfold zay;rw[e]
theorem uX (e:f ρ S=some (d,S1)):zdU i f ρ S=.nx (ρ.set i (.fz d)) S1:=by unfold zdU;rw[e]
theorem yRet_ok (e:f ρ S=some (d,S1)):zdx f ρ S=.rt d S1:=by unfold zdx;rw[e]
theorem yIfF (e:ft ρ S=some (false,S1)):yIf ft g yNx ρ S=.nx ρ S1:=by unfold yIf;rw[e];rfl
theorem yForI_ok {fi:Rho→List Ob→Rm (List D)}{ds:List D}(e:fi ρ S=some (ds,S1)):yForI i fi g ρ S=forM i g ds ρ S1:=by unfold yForI;rw[e]
theorem forM_inv {l:List α}{enc:α→D}(I:Nat→Rho→List Ob→Prop)(h0:I 0 ρ S)(hs:∀k x ρ S,l[k]? = some x→I k ρ S→∃ρ' S',g (ρ.set i (.fz (enc x))) S=.nx ρ' S'∧I (k+1) ρ' S'):∃ρ' S',forM i g (l.map enc) ρ S=.nx ρ' S'∧I l.length ρ' S':=by
 induction l generalizing ρ S I with
 | nil=>exact⟨ρ,S,rfl,h0⟩
 | cons x l ih =>
  obtain⟨ρ1,S1,e1,i1⟩:=hs 0 x ρ S rfl h0
  obtain⟨ρ2,S2,e2,i2⟩:=ih (fun k=>I (k+1)) i1 fun k y ρ S hk hI=>hs (k+1) y ρ S hk hI
  refine⟨ρ2,S2,?_,i2⟩
  show(match g (ρ.set i (.fz (enc x))) S with | .nx ρ' S'=>forM i g (l.map enc) ρ' S'|o=>o)=_
  rw[e1];exact e2
end
theorem zah {fe:Rho→Ob→Ro D}{ρ0:Rho}{j:Nat}{js:List Nat}{S S2:List Ob}{T T1:Ob}{e:D}{es:List D}(h:S[j]? = some T)(h1:fe ρ0 T=some (e,T1))(h2:zaF fe ρ0 js (S.set j T1)=some (es,S2)):zaF fe ρ0 (j::js) S=some (e::es,S2):=by
 show(match S[j]? with|some S'=>(match fe ρ0 S' with|some (e,S'')=>(match zaF fe ρ0 js (S.set j S'') with|some (es,S3)=>some (e::es,S3)|none=>none)|none=>none)|none=>none)=_
 rw[h]
 show(match fe ρ0 T with|some (e,S'')=>(match zaF fe ρ0 js (S.set j S'') with|some (es,S3)=>some (e::es,S3)|none=>none)|none=>none)=_
 rw[h1]
 show(match zaF fe ρ0 js (S.set j T1) with|some (es,S3)=>some (e::es,S3)|none=>none)=_
 rw[h2]
theorem set_same {j:Nat}{T:Ob}{S:List Ob}(h:S[j]? = some T):S.set j T=S:=by
 obtain⟨hj,e⟩:=List.getElem?_eq_some_iff.mp h
 rw[← e];exact List.set_getElem_self hj
theorem kY {j n:Nat}{fn:List D→Ob→Ro D}{fs:Rho→List Ob→Rm (List D)}{ρ:Rho}{S S1:List Ob}{T T1:Ob}{ds:List D}{d:D}(e:fs ρ S=some (ds,S1))(hj:j<S.length)(hl:ds.length+1=n)(h:S1[j]? = some T)(e2:fn ds T=some (d,T1)):eMM j n fn fs ρ S=some (d,S1.set j T1):=by
 unfold eMM
 rw[if_pos hj]
 refine m2_ok e ?_
 rw[if_pos hl,h]
 show(match fn ds T with|some (d,S')=>some (d,S1.set j S')|none=>none)=_
 rw[e2]
theorem zai {fe:Rho→List Ob→Rm D}{ρ0:Rho}{d e:D}{ds es:List D}{S S1 S2:List Ob}(h1:fe (ρ0.set 0 (.fz d)) S=some (e,S1))(h2:jB fe ρ0 ds S1=some (es,S2)):jB fe ρ0 (d::ds) S=some (e::es,S2):=by
 show(match fe (ρ0.set 0 (.fz d)) S with|some (e,S')=>(match jB fe ρ0 ds S' with|some (es,S'')=>some (e::es,S'')|none=>none)|none=>none)=_
 rw[h1];show(match jB fe ρ0 ds S1 with|some (es,S'')=>some (e::es,S'')|none=>none)=_;rw[h2]
theorem eCpM_ok {fi:Rho→Rs (List D)}{fe:Rho→List Ob→Rm D}{caps:List Nat}{ρ:Rho}{S S':List Ob}{ds es:List D}(e1:fi ρ=.ok ds)(hl:ds.length≤1000000)(e2:jB fe (xN 1 caps ρ) ds S=some (es,S')):eCpM fi fe caps ρ S=some (.lst es,S'):=by
 unfold eCpM
 rw[e1]
 show(if ds.length≤1000000 then(match jB fe (xN 1 caps ρ) ds S with|some (es,S')=>some (D.lst es,S')|none=>none) else none)=_
 rw[if_pos hl,e2]
theorem ySet2_ok {f:Rho→List Ob→Rm D}{i j:Nat}{ρ:Rho}{S S1:List Ob}{a b:D}(e:f ρ S=some (.tup [a,b],S1)):ySet2 i j f ρ S=.nx ((ρ.set i (.fz a)).set j (.fz b)) S1:=by unfold ySet2;rw[e]
theorem yMkL_ok {q n j:Nat}{js:List Nat}{ini:List D→Option Ob}{fi fs:Rho→Rs (List D)}{caps:List Nat}{g:Rho→List Ob→Om}{ρ:Rho}{S Ts:List Ob}{ds:List D}(e:fi ρ=.ok ds)(hl:ds.length≤1000000∧S.length=j∧ds.length=js.length)(e2:newL n ini fs (xN 1 caps ρ) ds=some Ts):yMkL q n j js ini fi fs caps g ρ S=g (ρ.set q .no) (S++Ts):=by
 unfold yMkL
 rw[e]
 show(if ds.length≤1000000∧S.length=j∧ds.length=js.length then(match newL n ini fs (xN 1 caps ρ) ds with|some Ts=>g (ρ.set q .no) (S++Ts)|none=>Om.no) else .no)=_
 rw[if_pos hl,e2]
theorem zaQ {n:Nat}{ini:List D→Option Ob}{fs:Rho→Rs (List D)}{ρ0:Rho}{d:D}{ds as:List D}{T:Ob}{Ts:List Ob}(e:fs (ρ0.set 0 (.fz d))=.ok as)(hn:as.length+1=n)(e2:ini as=some T)(e3:newL n ini fs ρ0 ds=some Ts):newL n ini fs ρ0 (d::ds)=some (T::Ts):=by
 show(match fs (ρ0.set 0 (.fz d)) with | .ok as=>if as.length+1=n then(match ini as with|some T=>(match newL n ini fs ρ0 ds with|some Ts=>some (T::Ts)|none=>none)|none=>none) else none|_=>none)=_
 rw[e]
 show(if as.length+1=n then(match ini as with|some T=>(match newL n ini fs ρ0 ds with|some Ts=>some (T::Ts)|none=>none)|none=>none) else none)=_
 rw[if_pos hn,e2]
 show(match newL n ini fs ρ0 ds with|some Ts=>some (T::Ts)|none=>none)=_
 rw[e3]
theorem zdi (B:List (List Nat))(l:List Nat):(sg B l).length≤5*l.length:=by
 have:=flat_len (B:=B) (cs:=(yd B l).1) (jN B _).2.1
 unfold sg
 rw[this]
 exact Nat.mul_le_mul (bits5 _) (uZ B l).1
theorem left_none (B:List (List Nat))(l:List Nat):(yd B ((yd B l).2++[])).1=[]:=by
 have e:=congrArg (fun z=>z.1.length) (cut_app B l [])
 simp only[List.append_nil,List.length_append] at e
 rw[List.append_nil]
 exact List.length_eq_zero_iff.mp (by omega)
theorem join_sT {xs:List (List Nat)}(h:xs.flatten.length≤1000000):vJ (.str []) (.lst (sT xs))=some (.str xs.flatten):=by
 dsimp only [vJ];rw[jy,if_pos ⟨jf _,h⟩]
def one (l:List Nat):List (List Nat):=l.map fun c=>[c]
theorem kE (l:List Nat):(one l).flatten=l:=by
 unfold one
 induction l with
 | nil=>rfl
 | cons c l ih=>rw[List.map_cons,List.flatten_cons,ih];rfl
theorem uL {a b:List Nat}(h:a.length+b.length≤1000):jD (.str a) (.str b)=some (.str (a++b)):=if_pos (by omega)
abbrev jg (ns:List Int)(m:Nat)(B:List (List Nat))(x:List Nat)(s5 s6 s7 s8 s9 s10 s11 s12 s13:Sl):Rho:=[.fz (scD ns),.fz (.int m),.fz (.tup (sT B)),.fz (.str x),.no,s5,s6,s7,s8,s9,s10,s11,s12,s13]
abbrev gL1:Rho→List Ob→Om:=zdU 5 (e2M jD (upM (fNm 5)) (eMM 1 2 yh (upM (zf (fNm 6) zF))))
theorem loop1 (h:Bb m B)(ns:List Int){x:List Nat}(hx:LetOk m x)(xl:x.length≤20)(T0 T2:Ob) :
  ∃s6,forM 6 gL1 (x.map fun c=>D.str [c]) (jg ns m B x (.fz (.str [])) .no .no .no .no .no .no .no .no) [T0,Qs m B [] [],T2]=.nx (jg ns m B x (.fz (.str (sg B x))) s6 .no .no .no .no .no .no .no) [T0,Qs m B (one x) [],T2]:=by
 obtain ⟨ρ',S',e,s6,rfl,rfl⟩:=forM_inv (i:=6) (l:=x) (enc:=fun c=>D.str [c]) (ρ:=jg ns m B x (.fz (.str [])) .no .no .no .no .no .no .no .no) (S:=[T0,Qs m B [] [],T2]) (g:=gL1)
  (fun i ρ S=>∃s6,ρ=jg ns m B x (.fz (.str (sg B (x.take i)))) s6 .no .no .no .no .no .no .no∧S=[T0,Qs m B (one (x.take i)) [],T2]) ⟨.no,by rw[List.take_zero];rfl,by rw[List.take_zero];rfl⟩ (by
   rintro i c ρ S hi ⟨z6,rfl,rfl⟩
   obtain⟨hi',ec⟩:=List.getElem?_eq_some_iff.mp hi
   have tk:x.take (i+1)=x.take i++[c]:=by rw[List.take_add_one,hi];rfl
   have on:one (x.take (i+1))=one (x.take i)++[[c]]:=by rw[tk];unfold one;rw[List.map_append];rfl
   have lc:LetOk m [c]:=fun d hd=>by rw[List.mem_singleton.mp hd];exact hx c (by rw[← ec];exact List.getElem_mem hi')
   have fl:=kE (x.take i)
   have tl:(x.take i).length≤20:=by rw[List.length_take];omega
   have te:=j8 (ud:=[]) (dn:=one (x.take i)) h lc (by rw[fl,List.length_singleton];omega) (by unfold one;rw[List.length_map];omega)
   rw[fl] at te
   have s1:=zdi B (x.take i)
   have s2:=zdi B ((yd B (x.take i)).2++[c])
   have s3:=(uZ B (x.take i)).2
   rw[List.length_append,List.length_singleton] at s2
   have sf:=zcW B (one (x.take i)) [c]
   rw[← on,kE,kE] at sf
   refine⟨_,_,uX (d:=.str (sg B (x.take (i+1)))) (S1:=[T0,Qs m B (one (x.take (i+1))) [],T2]) (qH (a:=.str (sg B (x.take i))) (b:=.str (sg B ((yd B (x.take i)).2++[c]))) (S1:=[T0,Qs m B (one (x.take i)) [],T2]) (yI rfl) ((kY (j:=1) (ds:=[.str [c]]) (S1:=[T0,Qs m B (one (x.take i)) [],T2]) (T:=Qs m B (one (x.take i)) []) (yI rfl) (by simp) rfl rfl te).trans ?_) ?_),.fz (.str [c]),rfl,rfl⟩
   ·rw[on];rfl
   ·rw[sf];exact uL (by omega))
 rw[List.take_length] at e
 exact⟨s6,e⟩
abbrev gO:Nat→Rho→List Ob→Om:=fun j=>(zay (yIf (bBM (e2M (eqD true) (oneM j (eO mkT (cC (eM0 zO) (cC (eM0 yx) (cC (eM0 yw) cN))))) (upM (fO mkT (zf (fNm 9) (zf (fNm 10) (zf (fNm 3) zF)))))))
  (zdx (upM (fC (.bl false))))
  yNx)
  (zay (yIf (bBM (e2M (eqD true) (oneM j (eM0 yr)) (upM (f2 ixD (fA (ari 3 zdO) (zf (fNm 1) (zf (fNm 2) (zf (fNm 3) zF)))) (fC (.int 0))))))
  (zdx (upM (fC (.bl false))))
  yNx)
  (zay (yIf (bBM (e2M (eqD true) (oneM j (e2 jD (eA (ari 3 zaY) (cC (L2.up (fNm 1)) (cC (L2.up (fNm 2)) (cC (eM0 zO) cN)))) (eM0 yx))) (upM (fNm 3))))
  (zdx (upM (fC (.bl false))))
  yNx)
  (yIf (bBM (e2M (eqD true) (oneM j (e2 jD (e1 (vJ (.str [])) (eM0 yr)) (L2.up (fNm 10)))) (upM (fNm 3))))
  (zdx (upM (fC (.bl false))))
  yNx))))
theorem e1_ok {k:D→Option D}{fa:Rho→Ob→Ro D}{ρ:Rho}{S S1:Ob}{a d:D}(h1:fa ρ S=some (a,S1))(h2:k a=some d):e1 k fa ρ S=some (d,S1):=zcl h1 (by rw[h2];rfl)
theorem ari3 {fn:List D→Rs D}{a b c:D}{r:Rs D}(e:fn [a,b,c]=r):ari 3 fn [a,b,c]=r:=(if_pos rfl).trans e
theorem tri_same (a b c:List Nat)(neg:Bool):eqD neg (.tup [.str a,.str b,.str c]) (.tup [.str a,.str b,.str c])=some (.bl (!neg)):=eqD_self neg rfl (Nat.le_trans (dep_tup (n:=0) fun d hd=>by simp only[List.mem_cons,List.not_mem_nil,or_false] at hd;rcases hd with rfl|rfl|rfl <;>exact Nat.le_refl 0) (by decide))
theorem bodyO (h:Bb m B)(h2:2≤B.length)(ns:List Int){x:List Nat}(hx:LetOk m x)(xl:x.length≤20){j:Nat}{S:List Ob}(hj:S[j]? = some (Qs m B dn []))(hd:dn.flatten=x)(s5 s6 s7 s8 s11:Sl) :
  gO j (jg ns m B x s5 s6 s7 s8 (.fz (.str (sg B x))) (.fz (.str (yd B x).2)) s11 .no .no) S=.nx (jg ns m B x s5 s6 s7 s8 (.fz (.str (sg B x))) (.fz (.str (yd B x).2)) s11 .no .no) S:=by
 have dl:dn.flatten.length≤900:=by rw[hd];omega
 have q1:=zct (ud:=[]) h dl
 have q2:=left_eq (m:=m) (B:=B) (dn:=dn) (ud:=[])
 have q3:=zaN (m:=m) (B:=B) (ud:=[]) dl
 have q4:=pieces_eq (m:=m) (B:=B) (ud:=[]) dl
 rw[hd] at q1 q2 q3 q4
 have cf:=jN B x
 have cl:=uZ B x
 have cap:(yd B x).1.flatten.length+(yd B x).2.length=x.length:=by rw[← List.length_append,cf.2.2]
 have lift:∀{α:Type}{f:Rho→Ob→Ro α}{ρ:Rho}{a:α},f ρ (Qs m B dn [])=some (a,Qs m B dn [])→oneM j f ρ S=some (a,S):=fun e=>by
  have:=oneM_ok (ρ:=_) hj e
  rw[set_same hj] at this;exact this
 refine(yU (yIfF (jH (qH (lift (eO_ok (ds:=[.str (sg B x),.str (yd B x).2,.str x]) (kJ (S1:=Qs m B dn []) q1 (kJ (S1:=Qs m B dn []) q2 (kJ (S1:=Qs m B dn []) q3 rfl))) rfl)) (yI (a:=.tup [.str (sg B x),.str (yd B x).2,.str x]) rfl) (tri_same _ _ _ true))))).trans ?_
 have ec:f2 ixD (fA (ari 3 zdO) (zf (fNm 1) (zf (fNm 2) (zf (fNm 3) zF)))) (fC (.int 0)) (jg ns m B x s5 s6 s7 s8 (.fz (.str (sg B x))) (.fz (.str (yd B x).2)) s11 .no .no)=.ok (.lst (sT (yd B x).1)):=wG (a:=.tup [.lst (sT (yd B x).1),.str (yd B x).2]) (b:=.int 0) (cA3 (a:=.int m) (b:=.tup (sT B)) (c:=.str x) rfl rfl rfl (cut_eq h.pcs h.isB hx (by omega))) rfl rfl
 refine(yU (yIfF (jH (qH (lift q4) (yI ec) (lstT rfl))))).trans ?_
 have eb:zaY [.int m,.tup (sT B),.str (sg B x)]=.ok (.str (yd B x).1.flatten):=back_eq h.pcs h.isB h2 cf.2.1 (by omega)
 have exx:jD (.str (yd B x).1.flatten) (.str (yd B x).2)=some (.str x):=by rw[uL (by omega),cf.2.2]
 refine(yU (yIfF (jH (qH (lift (e2_ok (S1:=Qs m B dn []) (eA_ok (ds:=[.int m,.tup (sT B),.str (sg B x)]) (kJ (S1:=Qs m B dn []) (zbr rfl) (kJ (S1:=Qs m B dn []) (zbr rfl) (kJ (S1:=Qs m B dn []) q1 rfl))) (ari3 eb)) q2 exx)) (yI (a:=.str x) rfl) (vd x true))))).trans ?_
 exact yIfF (jH (qH (lift (e2_ok (S1:=Qs m B dn []) (e1_ok q4 (join_sT (by omega))) (zbr rfl) exx)) (yI (a:=.str x) rfl) (vd x true)))
def En (o:Om)(d:D):Prop:=∃S,o=.rt d S
theorem En.step {o o':Om}{d:D}(e:o=o')(h:En o' d):En o d:=by rw[e];exact h
theorem runMo_ok {g:Rho→List Ob→Om}{ρ:Rho}{d:D}(e:En (g ρ []) d):runMo g ρ=.rt d:=by obtain⟨S,e⟩:=e;unfold runMo;rw[e]
theorem zbh {i j:Nat}{g:Nat→Rho→List Ob→Om}{js:List Nat}{ρ ρ':Rho}{S S':List Ob}(hl:i<ρ.length)(e:g j (ρ.set i .no) S=.nx ρ' S'):forO i g (j::js) ρ S=forO i g js ρ' S':=by
 show(if i<ρ.length then(match g j (ρ.set i .no) S with | .nx ρ' S'=>forO i g js ρ' S'|o=>o) else .no)=_
 rw[if_pos hl,e]
theorem law_true (ns:List Int)(hn:ns.length≤63):fn_law [.lst (ns.map .int)]=.ok (.bl true):=by
 have hd:=yO ns 0 (m:=3) (by decide)
 obtain⟨r,hr⟩:=Int.eq_ofNat_of_zero_le hd.1
 rw[hr] at hd
 have m2:2≤2+r:=by omega
 have m4:2+r≤4:=by omega
 have hmm:(2:Int)+(r:Int)=((2+r:Nat):Int):=by omega
 generalize hm:2+r=m at m2 m4 hmm
 have hd1:=yO ns 1 (m:=5) (by decide)
 obtain⟨t1,h1⟩:=Int.eq_ofNat_of_zero_le hd1.1
 rw[h1] at hd1
 have e1:=book_eq ns hn 20 m2 m4 t1 (by omega) (by decide)
 have hk:=Kc.of_gr (n:=5) m2 m4 (bkF_gr ns 20 m2 m4 t1) (by omega)
 have hB2:2≤(bkF ns 20 m t1).length:=by have:=(bkF_gr ns 20 m2 m4 t1).len m2 m4;omega
 generalize bkF ns 20 m t1=B at e1 hk hB2
 have h:=hk.bb (by decide)
 have ex:=text_eq ns hn 40 m2 m4 20 (by omega)
 have xl:=zba ns 40 m (long:=20)
 have xo:=textF_ok ns 40 m2 m4 20
 have ey:=text_eq ns hn 70 m2 m4 8 (by omega)
 have yl:=zba ns 70 m (long:=8)
 have yo:=textF_ok ns 70 m2 m4 8
 have c1:((40:Nat):Int)=40:=rfl
 have c2:((20:Nat):Int)=20:=rfl
 have c3:((70:Nat):Int)=70:=rfl
 have c4:((8:Nat):Int)=8:=rfl
 simp only[c1,c2,c3,c4] at ex xl xo ey yl yo
 generalize zcu ns 40 m 20=x at ex xl xo
 generalize zcu ns 70 m 8=y at ey yl yo
 have hd2:=yO ns 2 (m:=(x.length:Int)+1) (by omega)
 obtain⟨k,h2⟩:=Int.eq_ofNat_of_zero_le hd2.1
 rw[h2] at hd2
 have kl:k≤x.length:=by omega
 refine yj ?_
 refine runMo_ok ?_
 have e0:f2 uy (fC (.int 2)) (fA (ari 3 zH) (zf (fNm 0) (zf (fC (.int 0)) (zf (fC (.int 3)) zF)))) [.fz (scD ns),.no,.no,.no,.no,.no,.no,.no,.no,.no,.no,.no,.no,.no]=.ok (.int m):=(qK (i:=2) (j:=(r:Int)) rfl ((cA3 (a:=scD ns) (b:=.int 0) (c:=.int 3) rfl rfl rfl (qY ns hn 0 3 (by decide) (by decide) (by decide))).trans (by rw[hr]))).trans (by rw[hmm])
 refine En.step (yU (ρ:=[.fz (scD ns),.no,.no,.no,.no,.no,.no,.no,.no,.no,.no,.no,.no,.no]) (S:=[]) (uX (i:=1) (d:=.int m) (yI e0))) ?_
 have eB:fA (ari 4 vW) (zf (fNm 0) (zf (fC (.int 20)) (zf (fNm 1) (zf (fA (ari 3 zH) (zf (fNm 0) (zf (fC (.int 1)) (zf (fC (.int 5)) zF)))) zF)))) [.fz (scD ns),.fz (.int m),.no,.no,.no,.no,.no,.no,.no,.no,.no,.no,.no,.no]=.ok (.tup (sT B)):=cA4 (a:=scD ns) (b:=.int 20) (c:=.int m) (d:=.int t1) rfl rfl rfl ((cA3 (a:=scD ns) (b:=.int 1) (c:=.int 5) rfl rfl rfl (qY ns hn 1 5 (by decide) (by decide) (by decide))).trans (by rw[h1])) e1
 refine En.step (yU (ρ:=[.fz (scD ns),.fz (.int m),.no,.no,.no,.no,.no,.no,.no,.no,.no,.no,.no,.no]) (S:=[]) (uX (i:=2) (d:=.tup (sT B)) (yI eB))) ?_
 have eX:fA (ari 4 xR) (zf (fNm 0) (zf (fC (.int 40)) (zf (fNm 1) (zf (fC (.int 20)) zF)))) [.fz (scD ns),.fz (.int m),.fz (.tup (sT B)),.no,.no,.no,.no,.no,.no,.no,.no,.no,.no,.no]=.ok (.str x):=cA4 (a:=scD ns) (b:=.int 40) (c:=.int m) (d:=.int 20) rfl rfl rfl rfl ex
 refine En.step (yU (ρ:=[.fz (scD ns),.fz (.int m),.fz (.tup (sT B)),.no,.no,.no,.no,.no,.no,.no,.no,.no,.no,.no]) (S:=[]) (uX (i:=3) (d:=.str x) (yI eX))) ?_
 have eL:newL 3 uE (zf (fNm 1) (zf (fNm 2) zF)) (xN 1 [1,2] (jg ns m B x .no .no .no .no .no .no .no .no .no)) [.int 0,.int 1,.int 2]=some [Qs m B [] [],Qs m B [] [],Qs m B [] []]:=zaQ (as:=[.int m,.tup (sT B)]) rfl rfl (ini_eq h) (zaQ (as:=[.int m,.tup (sT B)]) rfl rfl (ini_eq h) (zaQ (as:=[.int m,.tup (sT B)]) rfl rfl (ini_eq h) rfl))
 refine En.step (yMkL_ok (ρ:=jg ns m B x .no .no .no .no .no .no .no .no .no) (S:=[]) (ds:=[.int 0,.int 1,.int 2]) rfl ⟨by decide,rfl,rfl⟩ eL) ?_
 have t1x:=j8 (ud:=[]) (dn:=[]) h xo (by simp only[List.flatten_nil,List.length_nil];omega) (by simp)
 have fx:([x]:List (List Nat)).flatten=x:=List.flatten_singleton
 have s1x:=zct (ud:=[]) (dn:=[x]) h (by rw[fx];omega)
 rw[fx] at s1x
 refine En.step (yU (ρ':=jg ns m B x .no .no .no .no .no .no .no .no .no) (S1:=[Qs m B [x] [],Qs m B [] [],Qs m B [] []]) (yIfF (jH (qH (a:=.str (sg B x)) (b:=.str (sg B x)) (S1:=[Qs m B [x] [],Qs m B [] [],Qs m B [] []]) (kY (j:=0) (ds:=[.str x]) (S1:=[Qs m B [] [],Qs m B [] [],Qs m B [] []]) (T:=Qs m B [] []) (yI rfl) (by simp) rfl rfl t1x) (kY (j:=0) (ds:=[]) (S1:=[Qs m B [x] [],Qs m B [] [],Qs m B [] []]) (T:=Qs m B [x] []) rfl (by simp) rfl rfl s1x) (vd _ true))))) ?_
 refine En.step (yU (ρ':=jg ns m B x (.fz (.str [])) .no .no .no .no .no .no .no .no) (S1:=[Qs m B [x] [],Qs m B [] [],Qs m B [] []]) (uX (yI rfl))) ?_
 obtain⟨s6,l1⟩:=loop1 h ns xo xl (Qs m B [x] []) (Qs m B [] [])
 refine En.step (yU ((yForI_ok (ds:=x.map fun c=>D.str [c]) (yI rfl)).trans l1)) ?_
 have eK:fA (ari 3 zH) (zf (fNm 0) (zf (fC (.int 2)) (zf (f2 uy (fO qp (zf (fNm 3) zF)) (fC (.int 1))) zF))) (jg ns m B x (.fz (.str (sg B x))) s6 .no .no .no .no .no .no .no)=.ok (.int (k:Int)):=(cA3 (a:=scD ns) (b:=.int 2) (c:=.int ((x.length:Int)+1)) rfl rfl (qK (i:=(x.length:Int)) (j:=1) rfl rfl) (qY ns hn 2 ((x.length:Int)+1) (by decide) (by decide) (by omega))).trans (by rw[h2])
 refine En.step (yU (ρ':=jg ns m B x (.fz (.str (sg B x))) s6 (.fz (.int (k:Int))) .no .no .no .no .no .no) (S1:=[Qs m B [x] [],Qs m B (one x) [],Qs m B [] []]) (uX (yI eK))) ?_
 have lk:(x.take k).length≤20:=by rw[List.length_take];omega
 have ld:(x.drop k).length≤20:=by rw[List.length_drop];omega
 have lo1:LetOk m (x.take k):=fun c hc=>xo c (List.mem_of_mem_take hc)
 have lo2:LetOk m ([]:List Nat):=fun c hc=>by cases hc
 have lo3:LetOk m (x.drop k):=fun c hc=>xo c (List.mem_of_mem_drop hc)
 have f1':([x.take k]:List (List Nat)).flatten=x.take k:=List.flatten_singleton
 have f2':([x.take k,[]]:List (List Nat)).flatten=x.take k:=by simp
 have f3':([x.take k,[],x.drop k]:List (List Nat)).flatten=x:=by simp
 have p1:=j8 (ud:=[]) (dn:=[]) h lo1 (by simp only[List.flatten_nil,List.length_nil];omega) (by simp)
 have p2:=j8 (ud:=[]) (dn:=[x.take k]) h lo2 (by rw[f1',List.length_nil];omega) (by simp)
 have p3:=j8 (ud:=[]) (dn:=[x.take k,[]]) h lo3 (by rw[f2'];omega) (by simp)
 have g1:sg B ((yd B ([]:List (List Nat)).flatten).2++x.take k)=sg B (x.take k):=rfl
 have g2:sg B ((yd B ([x.take k]:List (List Nat)).flatten).2++[])=[]:=by rw[f1'];unfold sg;rw[left_none];rfl
 have g3:=zcW B [x.take k,[]] (x.drop k)
 have g4:=zcW B [x.take k] []
 rw[show([x.take k,[]]++[x.drop k]:List (List Nat))=[x.take k,[],x.drop k] from rfl,f3'] at g3
 rw[show([x.take k]++[[]]:List (List Nat))=[x.take k,[]] from rfl,g2,f1',List.append_nil] at g4
 rw[g4] at g3
 rw[g1] at p1
 rw[g2] at p2
 generalize eq3:sg B ((yd B ([x.take k,[]]:List (List Nat)).flatten).2++x.drop k)=P3 at g3 p3
 have cq:jB (eMM 2 2 yh (upM (zf (fNm 0) zF))) (xN 1 [4] (jg ns m B x (.fz (.str (sg B x))) s6 (.fz (.int (k:Int))) .no .no .no .no .no .no)) [.str (x.take k),.str [],.str (x.drop k)] [Qs m B [x] [],Qs m B (one x) [],Qs m B [] []]=some ([.str (sg B (x.take k)),.str [],.str P3],[Qs m B [x] [],Qs m B (one x) [],Qs m B [x.take k,[],x.drop k] []]) :=
  zai (S1:=[Qs m B [x] [],Qs m B (one x) [],Qs m B [x.take k] []]) (kY (j:=2) (ds:=[.str (x.take k)]) (S1:=[Qs m B [x] [],Qs m B (one x) [],Qs m B [] []]) (T:=Qs m B [] []) (yI rfl) (by simp) rfl rfl p1)
   (zai (S1:=[Qs m B [x] [],Qs m B (one x) [],Qs m B [x.take k,[]] []]) (kY (j:=2) (ds:=[.str []]) (S1:=[Qs m B [x] [],Qs m B (one x) [],Qs m B [x.take k] []]) (T:=Qs m B [x.take k] []) (yI rfl) (by simp) rfl rfl p2)
    (zai (S1:=[Qs m B [x] [],Qs m B (one x) [],Qs m B [x.take k,[],x.drop k] []]) (kY (j:=2) (ds:=[.str (x.drop k)]) (S1:=[Qs m B [x] [],Qs m B (one x) [],Qs m B [x.take k,[]] []]) (T:=Qs m B [x.take k,[]] []) (yI rfl) (by simp) rfl rfl p3) rfl))
 have sl1:slD (.str x) none (some (k:Int))=some (.str (x.take k)):=by show some (D.str (zbF x none (some (k:Int))))=_;rw[zcV]
 have sl2:slD (.str x) (some (k:Int)) none=some (.str (x.drop k)):=by show some (D.str (zbF x (some (k:Int)) none))=_;rw[zcN]
 have eT:fI tpD (fO mkT (zf (fSl (fNm 3) xO (yR (fNm 7))) (zf (fC (.str [])) (zf (fSl (fNm 3) (yR (fNm 7)) xO) zF)))) (jg ns m B x (.fz (.str (sg B x))) s6 (.fz (.int (k:Int))) .no .no .no .no .no .no)=.ok [.str (x.take k),.str [],.str (x.drop k)]:=by
  have ea:zf (fSl (fNm 3) xO (yR (fNm 7))) (zf (fC (.str [])) (zf (fSl (fNm 3) (yR (fNm 7)) xO) zF)) (jg ns m B x (.fz (.str (sg B x))) s6 (.fz (.int (k:Int))) .no .no .no .no .no .no)=.ok [.str (x.take k),.str [],.str (x.drop k)]:=yt (fSl_ok (a:=.str x) (l:=none) (h:=some (k:Int)) rfl rfl rfl sl1) (yt rfl (yt (fSl_ok (a:=.str x) (l:=some (k:Int)) (h:=none) rfl rfl rfl sl2) rfl))
  have eo:fO mkT (zf (fSl (fNm 3) xO (yR (fNm 7))) (zf (fC (.str [])) (zf (fSl (fNm 3) (yR (fNm 7)) xO) zF))) (jg ns m B x (.fz (.str (sg B x))) s6 (.fz (.int (k:Int))) .no .no .no .no .no .no)=.ok (.tup [.str (x.take k),.str [],.str (x.drop k)]):=fO_ok ea rfl
  unfold fI
  rw[eo];rfl
 refine En.step (yU (ρ':=jg ns m B x (.fz (.str (sg B x))) s6 (.fz (.int (k:Int))) (.fz (.lst (sT [sg B (x.take k),[],P3]))) .no .no .no .no .no) (S1:=[Qs m B [x] [],Qs m B (one x) [],Qs m B [x.take k,[],x.drop k] []]) (uX (eCpM_ok eT (show 3≤1000000 by decide) cq))) ?_
 have jn:vJ (.str []) (.lst (sT [sg B (x.take k),[],P3]))=some (.str (sg B x)):=by
  have fl:([sg B (x.take k),[],P3]:List (List Nat)).flatten=sg B x:=by rw[g3];simp
  have:=join_sT (xs:=[sg B (x.take k),[],P3]) (by rw[fl];have:=zdi B x;omega)
  rw[fl] at this;exact this
 refine En.step (yU (ρ':=jg ns m B x (.fz (.str (sg B x))) s6 (.fz (.int (k:Int))) (.fz (.lst (sT [sg B (x.take k),[],P3]))) .no .no .no .no .no) (S1:=[Qs m B [x] [],Qs m B (one x) [],Qs m B [x.take k,[],x.drop k] []]) (yIfF (bOM_ff (yI (zes (wG (a:=.str []) (b:=.str []) (wG (a:=.lst (sT [sg B (x.take k),[],P3])) (b:=.int 1) rfl rfl rfl) rfl (vd [] true)))) (bOM_ff (yI (zes (wG (a:=.str (sg B x)) (b:=.str (sg B x)) (fM_ok (a:=.str []) (b:=.lst (sT [sg B (x.take k),[],P3])) rfl rfl rfl jn) rfl (vd _ true)))) (jH (qH (a:=.str (sg B x)) (yI rfl) (kY (j:=0) (ds:=[]) (S1:=[Qs m B [x] [],Qs m B (one x) [],Qs m B [x.take k,[],x.drop k] []]) (T:=Qs m B [x] []) rfl (by simp) rfl rfl s1x) (vd _ true))))))) ?_
 have eLd:fA (ari 3 zb3) (zf (fNm 1) (zf (fNm 2) (zf (fNm 3) zF))) (jg ns m B x (.fz (.str (sg B x))) s6 (.fz (.int (k:Int))) (.fz (.lst (sT [sg B (x.take k),[],P3]))) .no .no .no .no .no)=.ok (.tup [.str (sg B x),.str (yd B x).2]):=cA3 (a:=.int m) (b:=.tup (sT B)) (c:=.str x) rfl rfl rfl (led_eq h.pcs h.isB (strict h.bk.srt h.bk.nd) xo (by omega))
 refine En.step (yU (ρ':=jg ns m B x (.fz (.str (sg B x))) s6 (.fz (.int (k:Int))) (.fz (.lst (sT [sg B (x.take k),[],P3]))) (.fz (.str (sg B x))) (.fz (.str (yd B x).2)) .no .no .no) (S1:=[Qs m B [x] [],Qs m B (one x) [],Qs m B [x.take k,[],x.drop k] []]) (ySet2_ok (yI eLd))) ?_
 have o0:=bodyO (j:=0) (S:=[Qs m B [x] [],Qs m B (one x) [],Qs m B [x.take k,[],x.drop k] []]) h hB2 ns xo xl rfl fx (.fz (.str (sg B x))) s6 (.fz (.int (k:Int))) (.fz (.lst (sT [sg B (x.take k),[],P3]))) .no
 have o1:=bodyO (j:=1) (S:=[Qs m B [x] [],Qs m B (one x) [],Qs m B [x.take k,[],x.drop k] []]) h hB2 ns xo xl rfl (kE x) (.fz (.str (sg B x))) s6 (.fz (.int (k:Int))) (.fz (.lst (sT [sg B (x.take k),[],P3]))) .no
 have o2:=bodyO (j:=2) (S:=[Qs m B [x] [],Qs m B (one x) [],Qs m B [x.take k,[],x.drop k] []]) h hB2 ns xo xl rfl f3' (.fz (.str (sg B x))) s6 (.fz (.int (k:Int))) (.fz (.lst (sT [sg B (x.take k),[],P3]))) .no
 refine En.step (yU (ρ':=jg ns m B x (.fz (.str (sg B x))) s6 (.fz (.int (k:Int))) (.fz (.lst (sT [sg B (x.take k),[],P3]))) (.fz (.str (sg B x))) (.fz (.str (yd B x).2)) .no .no .no) (S1:=[Qs m B [x] [],Qs m B (one x) [],Qs m B [x.take k,[],x.drop k] []]) ((zbh (g:=gO) (show 11<14 by decide) o0).trans ((zbh (g:=gO) (show 11<14 by decide) o1).trans ((zbh (g:=gO) (show 11<14 by decide) o2).trans rfl)))) ?_
 have cpS:yCp [0,1,2] (eM0 yG) [] (jg ns m B x (.fz (.str (sg B x))) s6 (.fz (.int (k:Int))) (.fz (.lst (sT [sg B (x.take k),[],P3]))) (.fz (.str (sg B x))) (.fz (.str (yd B x).2)) .no .no .no) [Qs m B [x] [],Qs m B (one x) [],Qs m B [x.take k,[],x.drop k] []]=some (.lst [.tup [.int 1,.int 0],.tup [.int x.length,.int 0],.tup [.int 3,.int 0]],[Qs m B [x] [],Qs m B (one x) [],Qs m B [x.take k,[],x.drop k] []]):=by
  have cm:zaF (eM0 yG) (xN 1 [] (jg ns m B x (.fz (.str (sg B x))) s6 (.fz (.int (k:Int))) (.fz (.lst (sT [sg B (x.take k),[],P3]))) (.fz (.str (sg B x))) (.fz (.str (yd B x).2)) .no .no .no)) [0,1,2] [Qs m B [x] [],Qs m B (one x) [],Qs m B [x.take k,[],x.drop k] []]=some ([.tup [.int 1,.int 0],.tup [.int x.length,.int 0],.tup [.int 3,.int 0]],[Qs m B [x] [],Qs m B (one x) [],Qs m B [x.take k,[],x.drop k] []]):=by
   have ol:(one x).length=x.length:=by unfold one;rw[List.length_map]
   have st1:yG [] (Qs m B (one x) [])=some (.tup [.int x.length,.int 0],Qs m B (one x) []):=by have:=zcQ (m:=m) (B:=B) (dn:=one x) (ud:=[]);rw[ol] at this;exact this
   exact zah (T:=Qs m B [x] []) rfl (zcQ (m:=m) (B:=B) (dn:=[x]) (ud:=[])) (zah (T:=Qs m B (one x) []) rfl st1 (zah (T:=Qs m B [x.take k,[],x.drop k] []) rfl (zcQ (m:=m) (B:=B) (dn:=[x.take k,[],x.drop k]) (ud:=[])) rfl))
  unfold yCp
  rw[cm]
 refine En.step (yU (ρ':=jg ns m B x (.fz (.str (sg B x))) s6 (.fz (.int (k:Int))) (.fz (.lst (sT [sg B (x.take k),[],P3]))) (.fz (.str (sg B x))) (.fz (.str (yd B x).2)) .no .no .no) (S1:=[Qs m B [x] [],Qs m B (one x) [],Qs m B [x.take k,[],x.drop k] []]) (yIfF (jH (qH cpS (yI (a:=.lst [.tup [.int 1,.int 0],.tup [.int x.length,.int 0],.tup [.int 3,.int 0]]) rfl) (eqD_self true rfl (Nat.le_trans (dep_lst (n:=1) fun d hd=>by simp only[List.mem_cons,List.not_mem_nil,or_false] at hd;rcases hd with rfl|rfl|rfl <;>exact dep1 _ _) (by decide))))))) ?_
 have eY:fA (ari 4 xR) (zf (fNm 0) (zf (fC (.int 70)) (zf (fNm 1) (zf (fC (.int 8)) zF)))) (jg ns m B x (.fz (.str (sg B x))) s6 (.fz (.int (k:Int))) (.fz (.lst (sT [sg B (x.take k),[],P3]))) (.fz (.str (sg B x))) (.fz (.str (yd B x).2)) .no .no .no)=.ok (.str y):=cA4 (a:=scD ns) (b:=.int 70) (c:=.int m) (d:=.int 8) rfl rfl rfl rfl ey
 refine En.step (yU (ρ':=jg ns m B x (.fz (.str (sg B x))) s6 (.fz (.int (k:Int))) (.fz (.lst (sT [sg B (x.take k),[],P3]))) (.fz (.str (sg B x))) (.fz (.str (yd B x).2)) .no (.fz (.str y)) .no) (S1:=[Qs m B [x] [],Qs m B (one x) [],Qs m B [x.take k,[],x.drop k] []]) (uX (yI eY))) ?_
 have ty:=j8 (ud:=[]) (dn:=[x]) h yo (by rw[fx];omega) (by simp)
 have sy:=zcW B [x] y
 have fy:([x]++[y]:List (List Nat)).flatten=x++y:=by simp
 rw[fy,fx] at sy
 rw[fx] at ty
 generalize eP:sg B ((yd B x).2++y)=P4 at ty sy
 refine En.step (yU (ρ':=jg ns m B x (.fz (.str (sg B x))) s6 (.fz (.int (k:Int))) (.fz (.lst (sT [sg B (x.take k),[],P3]))) (.fz (.str (sg B x))) (.fz (.str (yd B x).2)) .no (.fz (.str y)) (.fz (.str P4))) (S1:=[Qs m B ([x]++[y]) [],Qs m B (one x) [],Qs m B [x.take k,[],x.drop k] []]) (uX (kY (j:=0) (ds:=[.str y]) (S1:=[Qs m B [x] [],Qs m B (one x) [],Qs m B [x.take k,[],x.drop k] []]) (T:=Qs m B [x] []) (yI rfl) (by simp) rfl rfl ty))) ?_
 have sxy:=zct (ud:=[]) (dn:=[x]++[y]) h (by rw[fy,List.length_append];omega)
 rw[fy] at sxy
 have loxy:LetOk m (x++y):=fun c hc=>(List.mem_append.mp hc).elim (xo c) (yo c)
 have eL2:f2 ixD (fA (ari 3 zb3) (zf (fNm 1) (zf (fNm 2) (zf (f2 jD (fNm 3) (fNm 12)) zF)))) (fC (.int 0)) (jg ns m B x (.fz (.str (sg B x))) s6 (.fz (.int (k:Int))) (.fz (.lst (sT [sg B (x.take k),[],P3]))) (.fz (.str (sg B x))) (.fz (.str (yd B x).2)) .no (.fz (.str y)) (.fz (.str P4)))=.ok (.str (sg B (x++y))):=wG (a:=.tup [.str (sg B (x++y)),.str (yd B (x++y)).2]) (b:=.int 0) (cA3 (a:=.int m) (b:=.tup (sT B)) (c:=.str (x++y)) rfl rfl (wG (a:=.str x) (b:=.str y) rfl rfl (uL (by omega))) (led_eq h.pcs h.isB (strict h.bk.srt h.bk.nd) loxy (by rw[List.length_append];omega))) rfl rfl
 have q0:∀ρ,eMM 0 1 zO nM ρ [Qs m B ([x]++[y]) [],Qs m B (one x) [],Qs m B [x.take k,[],x.drop k] []]=some (.str (sg B (x++y)),[Qs m B ([x]++[y]) [],Qs m B (one x) [],Qs m B [x.take k,[],x.drop k] []]):=fun ρ=>kY (j:=0) (ds:=[]) (S1:=[Qs m B ([x]++[y]) [],Qs m B (one x) [],Qs m B [x.take k,[],x.drop k] []]) (T:=Qs m B ([x]++[y]) []) rfl (by simp) rfl rfl sxy
 refine En.step (yU (ρ':=jg ns m B x (.fz (.str (sg B x))) s6 (.fz (.int (k:Int))) (.fz (.lst (sT [sg B (x.take k),[],P3]))) (.fz (.str (sg B x))) (.fz (.str (yd B x).2)) .no (.fz (.str y)) (.fz (.str P4))) (S1:=[Qs m B ([x]++[y]) [],Qs m B (one x) [],Qs m B [x.take k,[],x.drop k] []]) (yIfF (jH (qH (q0 _) (yI eL2) (vd _ true))))) ?_
 have tx1:=zaN (m:=m) (B:=B) (dn:=one x) (ud:=[]) (by rw[kE];omega)
 rw[kE] at tx1
 have s4:=zdi B x
 have s5:=zdi B (x++y)
 rw[List.length_append] at s5
 have sl4:(sg B x).length+P4.length≤1000:=by rw[← List.length_append,← sy];omega
 have r1:e2M (eqD false) (upM (f2 jD (fNm 9) (fNm 13))) (eMM 0 1 zO nM) (jg ns m B x (.fz (.str (sg B x))) s6 (.fz (.int (k:Int))) (.fz (.lst (sT [sg B (x.take k),[],P3]))) (.fz (.str (sg B x))) (.fz (.str (yd B x).2)) .no (.fz (.str y)) (.fz (.str P4))) [Qs m B ([x]++[y]) [],Qs m B (one x) [],Qs m B [x.take k,[],x.drop k] []]=some (.bl true,[Qs m B ([x]++[y]) [],Qs m B (one x) [],Qs m B [x.take k,[],x.drop k] []]):=qH (a:=.str (sg B x++P4)) (yI (wG (a:=.str (sg B x)) (b:=.str P4) rfl rfl (uL sl4))) (q0 _) (by rw[← sy];exact vd _ false)
 exact⟨_,yRet_ok (eAndM_ok r1 (qH (a:=.str x) (b:=.str x) (kY (j:=1) (ds:=[]) (S1:=[Qs m B ([x]++[y]) [],Qs m B (one x) [],Qs m B [x.take k,[],x.drop k] []]) (T:=Qs m B (one x) []) rfl (by simp) rfl rfl tx1) (yI rfl) (vd _ false)))⟩
end
end K64
namespace K64
open PySem L2 PyProof.Rows
open PySem.Challenge
open My
open Pg
def top (i:Nat):Stmt:=PySem.Challenge.pw_piecebooks_k64_whole_streams.main.body.getD i (.Pass ⟨0,0,0,0⟩)
abbrev jx:Stmt:=top 42
abbrev qG:Stmt:=top 43
abbrev vq:Stmt:=top 44
abbrev qg:Stmt:=top 45
abbrev u5:Stmt:=top 16
abbrev zab:Stmt:=top 9
abbrev qL:Stmt:=top 10
abbrev yV:Stmt:=top 15
abbrev v7:Stmt:=top 11
abbrev v5:Stmt:=top 17
abbrev qI:Stmt:=top 22
abbrev zaX:Stmt:=top 19
abbrev kj:Stmt:=top 21
abbrev kh:Stmt:=top 20
abbrev yX:Stmt:=top 23
abbrev uP:Stmt:=top 24
abbrev zaU:Stmt:=top 25
abbrev v9:Stmt:=top 18
abbrev wF:Stmt:=top 12
abbrev zcz:Stmt:=top 26
abbrev j9:Stmt:=top 29
abbrev zac:Stmt:=top 31
abbrev q9:Stmt:=top 32
abbrev zaO:Stmt:=top 33
abbrev s_led:Stmt:=top 34
abbrev uI:Stmt:=inClass (top 40) 4
abbrev uq:Stmt:=inClass (top 40) 1
abbrev u9:Stmt:=inClass (top 40) 2
abbrev wK:Stmt:=inClass (top 40) 0
abbrev uJ:Stmt:=inClass (top 40) 5
abbrev ur:Stmt:=inClass (top 40) 3
abbrev vp:Stmt:=inClass (top 40) 6
abbrev uw:Stmt:=inClass (top 40) 9
abbrev s_cut:Stmt:=top 27
abbrev vg:Stmt:=top 35
abbrev xZ:Stmt:=top 36
abbrev jo:Stmt:=top 38
abbrev s_back:Stmt:=top 37
abbrev zen:Stmt:=top 46
structure Txt (K:PySem.W.Frag)(mg:Str→Option Value) where
 o_Stream:Cd K mg "Stream"
 a_many:NoAttr K o_Stream.C "many"
 a_chosen:NoAttr K o_Stream.C "chosen"
 a_done:NoAttr K o_Stream.C "done"
 a_rests:NoAttr K o_Stream.C "rests"
 a_undone:NoAttr K o_Stream.C "undone"
 d__law_cell:Dn K mg "_law_cell" jx ["_law_script", "_law_k"]
 d__law_drawn:Dn K mg "_law_drawn" qG ["_law_script", "_law_k", "_law_many"]
 d__law_book:Dn K mg "_law_book" vq ["_law_script", "_law_at", "_law_many", "_law_turns"]
 d__law_text:Dn K mg "_law_text" qg ["_law_script", "_law_at", "_law_many", "_law_long"]
 d_is_rising:Dn K mg "is_rising" u5 ["texts"]
 d_is_whole:Dn K mg "is_whole" zab ["thing"]
 d_is_between:Dn K mg "is_between" qL ["thing", "least", "most"]
 d_is_number_of_letters:Dn K mg "is_number_of_letters" yV ["thing"]
 d_is_text_of:Dn K mg "is_text_of" v7 ["many", "thing"]
 d_are_pieces:Dn K mg "are_pieces" v5 ["many", "thing"]
 d_first_pair:Dn K mg "first_pair" qI ["pieces"]
 d_gone_on:Dn K mg "gone_on" zaX ["many", "texts"]
 d_is_apart:Dn K mg "is_apart" kj ["pieces", "text"]
 d_is_inner:Dn K mg "is_inner" kh ["pieces", "text"]
 d_first_text_apart:Dn K mg "first_text_apart" yX ["many", "pieces"]
 d_first_paper:Dn K mg "first_paper" uP ["many", "pieces"]
 d_is_book:Dn K mg "is_book" zaU ["many", "thing"]
 d_require_book:Dn K mg "require_book" v9 ["many", "thing"]
 d_require_text_of:Dn K mg "require_text_of" wF ["many", "thing"]
 d_cut_by:Dn K mg "cut_by" zcz ["book", "text"]
 d_bits_for:Dn K mg "bits_for" j9 ["size"]
 d_word_for:Dn K mg "word_for" zac ["number", "bits"]
 d_words_of:Dn K mg "words_of" q9 ["book"]
 d_led_by:Dn K mg "led_by" zaO ["book", "text"]
 d_led:Dn K mg "led" s_led ["many", "book", "text"]
 m_left:Md K o_Stream.C "left" "Stream.left" uI ["self"]
 m_go_on:Md K o_Stream.C "go_on" "Stream.go_on" uq ["self", "text"]
 m_tell:Md K o_Stream.C "tell" "Stream.tell" u9 ["self", "text"]
 m___init__:Md K o_Stream.C "__init__" "Stream.__init__" wK ["self", "many", "book"]
 m_text:Md K o_Stream.C "text" "Stream.text" uJ ["self"]
 m_signs:Md K o_Stream.C "signs" "Stream.signs" ur ["self"]
 m_pieces:Md K o_Stream.C "pieces" "Stream.pieces" vp ["self"]
 m_steps:Md K o_Stream.C "steps" "Stream.steps" uw ["self"]
 d_cut:Dn K mg "cut" s_cut ["many", "book", "text"]
 d_whole_words:Dn K mg "whole_words" vg ["book", "signs"]
 d_text_of_words:Dn K mg "text_of_words" xZ ["book", "words"]
 d_from_word:Dn K mg "from_word" jo ["many", "book", "signs", "number"]
 d_back:Dn K mg "back" s_back ["many", "book", "signs"]
 d_law:Dn K mg "law" zen ["_law_script"]
 v_FEWEST_LETTERS:Value
 c_FEWEST_LETTERS:mg "FEWEST_LETTERS" = some v_FEWEST_LETTERS
 r_FEWEST_LETTERS:RelV (.int (2)) v_FEWEST_LETTERS
 v_LETTERS:Value
 c_LETTERS:mg "LETTERS" = some v_LETTERS
 r_LETTERS:RelV (.str (T [97,98,99,100])) v_LETTERS
 v_MOST_PIECES:Value
 c_MOST_PIECES:mg "MOST_PIECES" = some v_MOST_PIECES
 r_MOST_PIECES:RelV (.int (32)) v_MOST_PIECES
 n_all:mg "all" = none
 n_any:mg "any" = none
 n_bool:mg "bool" = none
 n_dict:mg "dict" = none
 n_int:mg "int" = none
 n_isinstance:mg "isinstance" = none
 n_len:mg "len" = none
 n_max:mg "max" = none
 n_range:mg "range" = none
 n_sorted:mg "sorted" = none
 n_str:mg "str" = none
 n_tuple:mg "tuple" = none
 n_zip:mg "zip" = none
 x_NoBook:Own K mg "NoBook"
 x_NoLetters:Own K mg "NoLetters"
 x_NoWord:Own K mg "NoWord"
def zW {K:PySem.W.Frag}{mg:Str→Option Value}(t:Txt K mg):Nat→Addr
 | 1=>t.x_NoBook.C
 | 3=>t.x_NoLetters.C
 | 4=>t.x_NoWord.C
 | _=>0
theorem in_2 {C:Addr}:2∈(zA C).N:=show 2∈([2,3,4]:List Nat) by decide
theorem in_3 {C:Addr}:3∈(zA C).N:=show 3∈([2,3,4]:List Nat) by decide
theorem in_4 {C:Addr}:4∈(zA C).N:=show 4∈([2,3,4]:List Nat) by decide
theorem no_go_on {C:Addr}:("go_on" : Str)∉(zA C).nm:=show("go_on" : Str)∉(["many", "chosen", "done", "rests", "undone"]:List Str) by decide +kernel
theorem zcU {C:Addr}:("tell" : Str)∉(zA C).nm:=show("tell" : Str)∉(["many", "chosen", "done", "rests", "undone"]:List Str) by decide +kernel
theorem qZ {C:Addr}:("signs" : Str)∉(zA C).nm:=show("signs" : Str)∉(["many", "chosen", "done", "rests", "undone"]:List Str) by decide +kernel
theorem zek {C:Addr}:("left" : Str)∉(zA C).nm:=show("left" : Str)∉(["many", "chosen", "done", "rests", "undone"]:List Str) by decide +kernel
theorem zce {C:Addr}:("text" : Str)∉(zA C).nm:=show("text" : Str)∉(["many", "chosen", "done", "rests", "undone"]:List Str) by decide +kernel
theorem zdy {C:Addr}:("pieces" : Str)∉(zA C).nm:=show("pieces" : Str)∉(["many", "chosen", "done", "rests", "undone"]:List Str) by decide +kernel
theorem no_steps {C:Addr}:("steps" : Str)∉(zA C).nm:=show("steps" : Str)∉(["many", "chosen", "done", "rests", "undone"]:List Str) by decide +kernel
theorem ye {C:Addr}:(zA C).nm.Nodup:=show(["many", "chosen", "done", "rests", "undone"]:List Str).Nodup by decide +kernel
section
variable {P:Program}{w:World}{K:PySem.W.Frag}{mg:Str→Option Value}{base:Heap}
theorem zdp:FnScope ["_law_script", "_law_k"] ["_law_script", "_law_k"] (zu jx):=⟨rfl,rfl,rfl,by decide +kernel,rfl,by decide +kernel,by decide +kernel⟩
theorem zdS (t:Txt K mg):FnOk P w K mg base (CX1 P w) 1 t.d__law_cell.f t.d__law_cell.fd ["_law_script", "_law_k"] (spD K (zW t) vN 2) :=
 show FnOk P w K mg base (CX1 P w) 1 t.d__law_cell.f t.d__law_cell.fd ["_law_script", "_law_k"] (spD K (zW t) (yJ 2 vo) 2) from
 fnD (N:=["_law_script", "_law_k"]) (ps:=["_law_script", "_law_k"]) (k:=0) (m:=2) (n:=2) (g:=vo) (cl:=zW t) t.d__law_cell.fn zdp rfl rfl fun cdv A outer s H E hr =>
   (zB (zaB (za4 (op_eqD hr.units) o_eq (zm 0 (pv 0)) (xe_lst zx) (xY _))
   (zE (yc (yN ju zbo zN (zm 1 (pv 1)))))
   w5)
   (zE (yc (yN uz uF (zbn (zm 0 (pv 0)) (yN zap zat (zm 1 (pv 1)) (yq yW n_len rfl t.n_len boot_len (zj (zm 0 (pv 0)) zx zb) zb)) (fun _ _=>rfl)) (yN ju zbo zN (yN jZ zbz (zm 1 (pv 1)) (yq yW n_len rfl t.n_len boot_len (zj (zm 0 (pv 0)) zx zb) zb)))))))
theorem sc__law_drawn:FnScope ["_law_script", "_law_k", "_law_many", "_law_cell_here"] ["_law_script", "_law_k", "_law_many"] (zu qG):=⟨rfl,rfl,rfl,by decide +kernel,rfl,by decide +kernel,by decide +kernel⟩
theorem xG (t:Txt K mg):FnOk P w K mg base (CX1 P w) 2 t.d__law_drawn.f t.d__law_drawn.fd ["_law_script", "_law_k", "_law_many"] (spD K (zW t) zH 3) :=
 show FnOk P w K mg base (CX1 P w) 2 t.d__law_drawn.f t.d__law_drawn.fd ["_law_script", "_law_k", "_law_many"] (spD K (zW t) (yJ 4 wV) 3) from
 fnD (N:=["_law_script", "_law_k", "_law_many", "_law_cell_here"]) (ps:=["_law_script", "_law_k", "_law_many"]) (k:=1) (m:=4) (n:=3) (g:=wV) (cl:=zW t) t.d__law_drawn.fn sc__law_drawn rfl rfl fun cdv A outer s H E hr =>
   (zB (xu (i:=3) sc__law_drawn.nd rfl (Or.inl rfl) (yN zap zat (yN uz uF (yN ju zbo (yN zap zat (zK (zdS t) (hr.mono (by decide)) rfl t.d__law_cell.mg t.d__law_cell.fn.kp t.d__law_cell.bd zU (zj (zm 0 (pv 0)) (zj (zm 1 (pv 1)) zx zb) zb) zb) zN) zN) (yN ju zbo zN (yN uz uF (zm 1 (pv 1)) zN))) zN))
   (zB (xu (i:=3) sc__law_drawn.nd rfl (Or.inl rfl) (yN zap zat (yN uz uF (yN ju zbo (zm 3 (pv 3)) (zm 3 (pv 3))) (yN jZ zbz (zm 3 (pv 3)) zN)) zN))
   (zE (yc (yN zap zat (yN jZ zbz (yN zap zat (yN uz uF (yN ju zbo (zm 3 (pv 3)) (zm 3 (pv 3))) (yN jZ zbz (zm 3 (pv 3)) zN)) zN) zN) (zm 2 (pv 2)))))))
theorem sc__law_book:FnScope ["_law_script", "_law_at", "_law_many", "_law_turns", "_law_found", "_law_k", "_law_piece"] ["_law_script", "_law_at", "_law_many", "_law_turns"] (zu vq):=⟨rfl,rfl,rfl,by decide +kernel,rfl,by decide +kernel,by decide +kernel⟩
theorem zc5 (t:Txt K mg):FnOk P w K mg base (CX1 P w) 3 t.d__law_book.f t.d__law_book.fd ["_law_script", "_law_at", "_law_many", "_law_turns"] (spD K (zW t) vW 4) :=
 show FnOk P w K mg base (CX1 P w) 3 t.d__law_book.f t.d__law_book.fd ["_law_script", "_law_at", "_law_many", "_law_turns"] (spD K (zW t) (yJ 7 vD) 4) from
 fnD (N:=["_law_script", "_law_at", "_law_many", "_law_turns", "_law_found", "_law_k", "_law_piece"]) (ps:=["_law_script", "_law_at", "_law_many", "_law_turns"]) (k:=2) (m:=7) (n:=4) (g:=vD) (cl:=zW t) t.d__law_book.fn sc__law_book rfl rfl fun cdv A outer s H E hr =>
   (zB (xs_compO (j:=4) sc__law_book.nd rfl rfl (x := "_law_k") (caps:=[]) (xJ (fs:=zu vq) (N:=["_law_script", "_law_at", "_law_many", "_law_turns", "_law_found", "_law_k", "_law_piece"]) rfl rfl (by decide +kernel)) rfl (vy rfl t.n_range (zj (zm 2 (pv 2)) zx zb) rfl) ⟨fun _ _ _ _ _=>(z9 (i:=0) (kI (N:=["_law_k"]) rfl (by decide +kernel)) rfl (Or.inl rfl)),fun _ _ _ _ _=>wZ,fun _ _ _ _ _=>(zbn (xU (l:=[97,98,99,100]) (by decide +kernel) (jL (by decide +kernel) (by decide +kernel))) (zm 0 (pv 0)) (fun _ _=>rfl))⟩ rfl)
   (zB (zaq (zbq (i:=5) PassesOwn.never rfl (vy rfl t.n_range (zj (zm 3 (pv 3)) zx zb) rfl) (z9 (i:=5) sc__law_book.nd rfl (Or.inl rfl))
   (zB (xs_pop (j:=6) sc__law_book.nd rfl (Or.inr rfl) (pv 4) (xe_fl (i:=4) (zK (xG t) (hr.mono (by decide)) rfl t.d__law_drawn.mg t.d__law_drawn.fn.kp t.d__law_drawn.bd zbK (zj (zm 0 (pv 0)) (zj (yN uz uF (zm 1 (pv 1)) (zm 5 (pv 5))) (zj (yq yW n_len rfl t.n_len boot_len (zj (zm 4 (pv 4)) zx zb) zb) zx zR) wM) zb) zb)) ⟨zR,rfl,rfl,rfl,rfl⟩)
   (zE (xs_ice (i:=4) (zd0 (i:=4) sc__law_book.nd rfl (Or.inl rfl) (xl_sorted rfl t.n_sorted boot_sorted (XL.xe (xl_cat (zm 4 (pv 4)) (uh (x := "_law_j") (caps:=[6]) (xJ (fs:=zu vq) (N:=["_law_script", "_law_at", "_law_many", "_law_turns", "_law_found", "_law_k", "_law_piece"]) rfl rfl (by decide +kernel)) rfl (vy rfl t.n_range (zj (zm 2 (pv 2)) zx zb) rfl) ⟨fun _ _ _ _ _=>(z9 (i:=0) (kI (N:=["_law_j", "_law_piece"]) rfl (by decide +kernel)) rfl (Or.inl rfl)),fun _ _ _ _ _=>wZ,fun _ _ _ _ _=>(yN um jc (zm 1 (pv 1)) (zbn (xU (l:=[97,98,99,100]) (by decide +kernel) (jL (by decide +kernel) (by decide +kernel))) (zm 0 (pv 0)) (fun _ _=>rfl)))⟩))) wM)))))))
   (zE (xs_ice (i:=4) (yc (zdn zcg n_tup rfl t.n_tuple boot_tuple (zj (zm 4 (pv 4)) zx zb) zb))))))
theorem sc__law_text:FnScope ["_law_script", "_law_at", "_law_many", "_law_long", "_law_size"] ["_law_script", "_law_at", "_law_many", "_law_long"] (zu qg):=⟨rfl,rfl,rfl,by decide +kernel,rfl,by decide +kernel,by decide +kernel⟩
theorem zal (t:Txt K mg):FnOk P w K mg base (CX1 P w) 3 t.d__law_text.f t.d__law_text.fd ["_law_script", "_law_at", "_law_many", "_law_long"] (spD K (zW t) xR 4) :=
 show FnOk P w K mg base (CX1 P w) 3 t.d__law_text.f t.d__law_text.fd ["_law_script", "_law_at", "_law_many", "_law_long"] (spD K (zW t) (yJ 5 vG) 4) from
 fnD (N:=["_law_script", "_law_at", "_law_many", "_law_long", "_law_size"]) (ps:=["_law_script", "_law_at", "_law_many", "_law_long"]) (k:=2) (m:=5) (n:=4) (g:=vG) (cl:=zW t) t.d__law_text.fn sc__law_text rfl rfl fun cdv A outer s H E hr =>
   (zB (xu (i:=4) sc__law_text.nd rfl (Or.inl rfl) (zK (xG t) (hr.mono (by decide)) rfl t.d__law_drawn.mg t.d__law_drawn.fn.kp t.d__law_drawn.bd zU (zj (zm 0 (pv 0)) (zj (zm 1 (pv 1)) (zj (yN uz uF (zm 3 (pv 3)) zN) zx wM) zb) zb) zb))
   (zE (yc (zcG (xU (l:=[]) (by decide +kernel) (jL (by decide +kernel) (by decide +kernel))) (uh (x := "_law_k") (caps:=[0,2,1]) (xJ (fs:=zu qg) (N:=["_law_script", "_law_at", "_law_many", "_law_long", "_law_size"]) rfl rfl (by decide +kernel)) rfl (vy rfl t.n_range (zj (zm 4 (pv 4)) zx zb) rfl) ⟨fun _ _ _ _ _=>(z9 (i:=0) (kI (N:=["_law_k", "_law_script", "_law_many", "_law_at"]) rfl (by decide +kernel)) rfl (Or.inl rfl)),fun _ _ _ _ _=>wZ,fun _ _ _ _ _=>(zbn (xU (l:=[97,98,99,100]) (by decide +kernel) (jL (by decide +kernel) (by decide +kernel))) (zK (xG t) (hr.mono (by decide)) rfl t.d__law_drawn.mg t.d__law_drawn.fn.kp t.d__law_drawn.bd zbK (zj (zm 1 (pv 1)) (zj (yN uz uF (yN uz uF (zm 3 (pv 3)) zN) (zm 0 (pv 0))) (zj (zm 2 (pv 2)) zx zb) wM) zb) zb) (fun _ _=>rfl))⟩) ⟨rfl,rfl,rfl,rfl,rfl⟩))))
theorem zdN:FnScope ["texts"] ["texts"] (zu u5):=⟨rfl,rfl,rfl,by decide +kernel,rfl,by decide +kernel,by decide +kernel⟩
theorem zdo (t:Txt K mg):FnOk P w K mg base (CX1 P w) 1 t.d_is_rising.f t.d_is_rising.fd ["texts"] (spD K (zW t) vZ 1) :=
 show FnOk P w K mg base (CX1 P w) 1 t.d_is_rising.f t.d_is_rising.fd ["texts"] (spD K (zW t) (yJ 1 uT) 1) from
 fnD (N:=["texts"]) (ps:=["texts"]) (k:=0) (m:=1) (n:=1) (g:=uT) (cl:=zW t) t.d_is_rising.fn zdN rfl rfl fun cdv A outer s H E hr =>
   (zE (yc (yq (zcT rfl) n_all rfl t.n_all boot_all (zj (XL.xe (xl_compZ (x := "one") (y := "other") (caps:=[]) (xJ (fs:=zu u5) (N:=["texts"]) rfl rfl (by decide +kernel)) rfl rfl t.n_zip (zm 0 (pv 0)) (vP (zm 0 (pv 0)) (uK zN) jA) ⟨fun _ _ _ _ _=>(pg_two (K:=K) (i:=0) (j:=1) rfl rfl (kI (N:=["one", "other"]) rfl (by decide +kernel)) rfl rfl (Or.inl rfl) (Or.inl rfl)),fun _ _ _ _ _=>wZ,fun _ _ _ _ _=>(xe_cmp op_lt_str o_ltS (zm 0 (pv 0)) (zm 1 (pv 1)) (xY _))⟩ rfl rfl)) zx rfl) rfl)))
theorem zec:FnScope ["thing"] ["thing"] (zu zab):=⟨rfl,rfl,rfl,by decide +kernel,rfl,by decide +kernel,by decide +kernel⟩
theorem zef (t:Txt K mg):FnOk P w K mg base (CX1 P w) 1 t.d_is_whole.f t.d_is_whole.fd ["thing"] (spD K (zW t) jw 1) :=
 show FnOk P w K mg base (CX1 P w) 1 t.d_is_whole.f t.d_is_whole.fd ["thing"] (spD K (zW t) (yJ 1 zaf) 1) from
 fnD (N:=["thing"]) (ps:=["thing"]) (k:=0) (m:=1) (n:=1) (g:=zaf) (cl:=zW t) t.d_is_whole.fn zec rfl rfl fun cdv A outer s H E hr =>
   (zE (yc (zb0 (zdg kit_int rfl t.n_isinstance (zm 0 (pv 0)) (zbi (v:=.ty "int") rfl t.n_int boot_int rfl) zb) (zbw (xe_not (zdg kit_bool rfl t.n_isinstance (zm 0 (pv 0)) (zbi (v:=.ty "bool") rfl t.n_bool boot_bool rfl) zb))))))
theorem zcD:FnScope ["thing", "least", "most"] ["thing", "least", "most"] (zu qL):=⟨rfl,rfl,rfl,by decide +kernel,rfl,by decide +kernel,by decide +kernel⟩
theorem zcL (t:Txt K mg):FnOk P w K mg base (CX1 P w) 2 t.d_is_between.f t.d_is_between.fd ["thing", "least", "most"] (spD K (zW t) vf 3) :=
 show FnOk P w K mg base (CX1 P w) 2 t.d_is_between.f t.d_is_between.fd ["thing", "least", "most"] (spD K (zW t) (yJ 3 vY) 3) from
 fnD (N:=["thing", "least", "most"]) (ps:=["thing", "least", "most"]) (k:=1) (m:=3) (n:=3) (g:=vY) (cl:=zW t) t.d_is_between.fn zcD rfl rfl fun cdv A outer s H E hr =>
   (zE (yc (zb0 (zK (zef t) (hr.mono (by decide)) rfl t.d_is_whole.mg t.d_is_whole.fn.kp t.d_is_whole.bd zU (zj (zm 0 (pv 0)) zx zb) zb) (zbw (xe_chain op_le op_le o_leI o_leI (zm 1 (pv 1)) (zm 0 (pv 0)) (zm 2 (pv 2)))))))
theorem uW:FnScope ["thing"] ["thing"] (zu yV):=⟨rfl,rfl,rfl,by decide +kernel,rfl,by decide +kernel,by decide +kernel⟩
theorem uH (t:Txt K mg):FnOk P w K mg base (CX1 P w) 3 t.d_is_number_of_letters.f t.d_is_number_of_letters.fd ["thing"] (spD K (zW t) yg 1) :=
 show FnOk P w K mg base (CX1 P w) 3 t.d_is_number_of_letters.f t.d_is_number_of_letters.fd ["thing"] (spD K (zW t) (yJ 1 yp) 1) from
 fnD (N:=["thing"]) (ps:=["thing"]) (k:=2) (m:=1) (n:=1) (g:=yp) (cl:=zW t) t.d_is_number_of_letters.fn uW rfl rfl fun cdv A outer s H E hr =>
   (zE (yc (zK (zcL t) (hr.mono (by decide)) rfl t.d_is_between.mg t.d_is_between.fn.kp t.d_is_between.bd zU (zj (zm 0 (pv 0)) (zj (xe_c (zbp (v:=.int (2)) rfl t.c_FEWEST_LETTERS t.r_FEWEST_LETTERS) fun _=>.int _) (zj (yq yW n_len rfl t.n_len boot_len (zj (xe_c (zbp (v:=.str (T [97,98,99,100])) rfl t.c_LETTERS t.r_LETTERS) fun _=>.str [97,98,99,100] (jL (by decide +kernel) (by decide +kernel))) zx zb) zb) zx zR) zb) zb) zb)))
theorem sc_is_text_of:FnScope ["many", "thing", "letters"] ["many", "thing"] (zu v7):=⟨rfl,rfl,rfl,by decide +kernel,rfl,by decide +kernel,by decide +kernel⟩
theorem jY (t:Txt K mg):FnOk P w K mg base (CX1 P w) 1 t.d_is_text_of.f t.d_is_text_of.fd ["many", "thing"] (spD K (zW t) yM 2) :=
 show FnOk P w K mg base (CX1 P w) 1 t.d_is_text_of.f t.d_is_text_of.fd ["many", "thing"] (spD K (zW t) (yJ 3 vU) 2) from
 fnD (N:=["many", "thing", "letters"]) (ps:=["many", "thing"]) (k:=0) (m:=3) (n:=2) (g:=vU) (cl:=zW t) t.d_is_text_of.fn sc_is_text_of rfl rfl fun cdv A outer s H E hr =>
   (zB (xu (i:=2) sc_is_text_of.nd rfl (Or.inr rfl) (vP (xe_c (zbp (v:=.str (T [97,98,99,100])) rfl t.c_LETTERS t.r_LETTERS) fun _=>.str [97,98,99,100] (jL (by decide +kernel) (by decide +kernel))) jA (uK (zm 0 (pv 0)))))
   (zE (yc (zb0 (zdg kit_str rfl t.n_isinstance (zm 1 (pv 1)) (zbi (v:=.ty "str") rfl t.n_str boot_str rfl) zb) (zbw (yq (zcT rfl) n_all rfl t.n_all boot_all (zj (uh (x := "sign") (caps:=[2]) (xJ (fs:=zu v7) (N:=["many", "thing", "letters"]) rfl rfl (by decide +kernel)) rfl (xi_str (zm 1 (pv 1))) ⟨fun _ _ _ _ _=>(z9 (i:=0) (kI (N:=["sign", "letters"]) rfl (by decide +kernel)) rfl (Or.inl rfl)),fun _ _ _ _ _=>wZ,fun _ _ _ _ _=>(xe_cmp op_inC o_inC (zm 0 (pv 0)) (zm 1 (pv 1)) (by with_unfolding_all rfl))⟩) zx rfl) rfl))))))
theorem zcO:FnScope ["many", "thing"] ["many", "thing"] (zu v5):=⟨rfl,rfl,rfl,by decide +kernel,rfl,by decide +kernel,by decide +kernel⟩
theorem zcA (t:Txt K mg):FnOk P w K mg base (CX1 P w) 4 t.d_are_pieces.f t.d_are_pieces.fd ["many", "thing"] (spD K (zW t) wg 2) :=
 show FnOk P w K mg base (CX1 P w) 4 t.d_are_pieces.f t.d_are_pieces.fd ["many", "thing"] (spD K (zW t) (yJ 2 vL) 2) from
 fnD (N:=["many", "thing"]) (ps:=["many", "thing"]) (k:=3) (m:=2) (n:=2) (g:=vL) (cl:=zW t) t.d_are_pieces.fn zcO rfl rfl fun cdv A outer s H E hr =>
   (zB (zaB (XW.xt (xw_or (zbt (jU (zK (uH t) (hr.mono (by decide)) rfl t.d_is_number_of_letters.mg t.d_is_number_of_letters.fn.kp t.d_is_number_of_letters.bd zU (zj (zm 0 (pv 0)) zx zb) zb))) (xw_or1 (zbt (jU (zdg kit_tuple rfl t.n_isinstance (zm 1 (pv 1)) (zbi (v:=.ty "tuple") rfl t.n_tuple boot_tuple rfl) zb))))))
   (zE (yc zbx))
   w5)
   (zB (zaB (zbt (xt_chain op_le op_le o_leI o_leI zN (yq yW n_len rfl t.n_len boot_len (zj (zm 1 (pv 1)) zx zb) zb) (xe_c (zbp (v:=.int (32)) rfl t.c_MOST_PIECES t.r_MOST_PIECES) fun _=>.int _)))
   (zE (yc zbx))
   w5)
   (zB (zaB (zbt (jU (yq (zcT rfl) n_all rfl t.n_all boot_all (zj (uh (x := "part") (caps:=[0]) (xJ (fs:=zu v5) (N:=["many", "thing"]) rfl rfl (by decide +kernel)) rfl (xi_tup (zm 1 (pv 1))) ⟨fun _ _ _ _ _=>(z9 (i:=0) (kI (N:=["part", "many"]) rfl (by decide +kernel)) rfl (Or.inl rfl)),fun _ _ _ _ _=>wZ,fun _ _ _ _ _=>(zb0 (zK (jY t) (hr.mono (by decide)) rfl t.d_is_text_of.mg t.d_is_text_of.fn.kp t.d_is_text_of.bd zbK (zj (zm 1 (pv 1)) (zj (zm 0 (pv 0)) zx zb) zb) zb) (zbw (xe_cmp (vO hr.units) o_ne (zm 0 (pv 0)) (xU (l:=[]) (by decide +kernel) (jL (by decide +kernel) (by decide +kernel))) (xY _))))⟩) zx rfl) rfl)))
   (zE (yc zbx))
   w5)
   (zE (yc (zK (zdo t) (hr.mono (by decide)) rfl t.d_is_rising.mg t.d_is_rising.fn.kp t.d_is_rising.bd zU (zj (zm 1 (pv 1)) zx zb) zb))))))
theorem sc_first_pair:FnScope ["pieces", "one", "other"] ["pieces"] (zu qI):=⟨rfl,rfl,rfl,by decide +kernel,rfl,by decide +kernel,by decide +kernel⟩
theorem zci (t:Txt K mg):FnOk P w K mg base (CX1 P w) 1 t.d_first_pair.f t.d_first_pair.fd ["pieces"] (spD K (zW t) yL 1) :=
 show FnOk P w K mg base (CX1 P w) 1 t.d_first_pair.f t.d_first_pair.fd ["pieces"] (spD K (zW t) (yJ 3 xj) 1) from
 fnD (N:=["pieces", "one", "other"]) (ps:=["pieces"]) (k:=0) (m:=3) (n:=1) (g:=xj) (cl:=zW t) t.d_first_pair.fn sc_first_pair rfl rfl fun cdv A outer s H E hr =>
   (zB (zaq (xs_forZ (i:=1) (j:=2) PassesOwn.never rfl rfl t.n_zip (zm 0 (pv 0)) (vP (zm 0 (pv 0)) (uK zN) jA) (pg_two (K:=K) (i:=1) (j:=2) rfl rfl sc_first_pair.nd rfl rfl (Or.inl rfl) (Or.inl rfl))
   (zE (zaB (jU (jM (zm 2 (pv 2)) (zm 1 (pv 1)) ⟨zb,rfl,rfl,rfl,rfl⟩))
   (zE (yc (zdq (zj (zm 1 (pv 1)) (zj (zm 2 (pv 2)) zx zb) zb))))
   w5)) rfl rfl))
   (zE (yc xe_non)))
theorem sc_gone_on:FnScope ["many", "texts", "longer", "text", "letter"] ["many", "texts"] (zu zaX):=⟨rfl,rfl,rfl,by decide +kernel,rfl,by decide +kernel,by decide +kernel⟩
theorem ok_gone_on (t:Txt K mg):FnOk P w K mg base (CX1 P w) 1 t.d_gone_on.f t.d_gone_on.fd ["many", "texts"] (spD K (zW t) yS 2) :=
 show FnOk P w K mg base (CX1 P w) 1 t.d_gone_on.f t.d_gone_on.fd ["many", "texts"] (spD K (zW t) (yJ 5 qx) 2) from
 fnD (N:=["many", "texts", "longer", "text", "letter"]) (ps:=["many", "texts"]) (k:=0) (m:=5) (n:=2) (g:=qx) (cl:=zW t) t.d_gone_on.fn sc_gone_on rfl rfl fun cdv A outer s H E hr =>
   (zB (zd0 (i:=2) sc_gone_on.nd rfl (Or.inl rfl) (xl_lst zx))
   (zB (zaq (zbq (i:=3) PassesOwn.never rfl (zak (zm 1 (pv 1))) (z9 (i:=3) sc_gone_on.nd rfl (Or.inl rfl))
   (zE (zbq (i:=4) PassesOwn.never rfl (xi_str (vP (xe_c (zbp (v:=.str (T [97,98,99,100])) rfl t.c_LETTERS t.r_LETTERS) fun _=>.str [97,98,99,100] (jL (by decide +kernel) (by decide +kernel))) jA (uK (zm 0 (pv 0))))) (z9 (i:=4) sc_gone_on.nd rfl (Or.inl rfl))
   (zE (zdK (pv 2) (yN um jc (zm 3 (pv 3)) (zm 4 (pv 4))) ⟨wM,rfl,rfl,rfl,rfl⟩))))))
   (zE (xs_ice (i:=2) (yc (zm 2 (pv 2)))))))
theorem zd7:FnScope ["pieces", "text"] ["pieces", "text"] (zu kj):=⟨rfl,rfl,rfl,by decide +kernel,rfl,by decide +kernel,by decide +kernel⟩
theorem zdZ (t:Txt K mg):FnOk P w K mg base (CX1 P w) 1 t.d_is_apart.f t.d_is_apart.fd ["pieces", "text"] (spD K (zW t) zZ 2) :=
 show FnOk P w K mg base (CX1 P w) 1 t.d_is_apart.f t.d_is_apart.fd ["pieces", "text"] (spD K (zW t) (yJ 2 qT) 2) from
 fnD (N:=["pieces", "text"]) (ps:=["pieces", "text"]) (k:=0) (m:=2) (n:=2) (g:=qT) (cl:=zW t) t.d_is_apart.fn zd7 rfl rfl fun cdv A outer s H E hr =>
   (zE (yc (xe_not (yq (call_any rfl) n_any rfl t.n_any boot_any (zj (uh (x := "piece") (caps:=[1]) (xJ (fs:=zu kj) (N:=["pieces", "text"]) rfl rfl (by decide +kernel)) rfl (xi_tup (zm 0 (pv 0))) ⟨fun _ _ _ _ _=>(z9 (i:=0) (kI (N:=["piece", "text"]) rfl (by decide +kernel)) rfl (Or.inl rfl)),fun _ _ _ _ _=>wZ,fun _ _ _ _ _=>(xe_or (jM (zm 0 (pv 0)) (zm 1 (pv 1)) ⟨zb,rfl,rfl,rfl,rfl⟩) (zbw (jM (zm 1 (pv 1)) (zm 0 (pv 0)) ⟨zb,rfl,rfl,rfl,rfl⟩)))⟩) zx rfl) rfl))))
theorem zd8:FnScope ["pieces", "text"] ["pieces", "text"] (zu kh):=⟨rfl,rfl,rfl,by decide +kernel,rfl,by decide +kernel,by decide +kernel⟩
theorem zer (t:Txt K mg):FnOk P w K mg base (CX1 P w) 1 t.d_is_inner.f t.d_is_inner.fd ["pieces", "text"] (spD K (zW t) zY 2) :=
 show FnOk P w K mg base (CX1 P w) 1 t.d_is_inner.f t.d_is_inner.fd ["pieces", "text"] (spD K (zW t) (yJ 2 qQ) 2) from
 fnD (N:=["pieces", "text"]) (ps:=["pieces", "text"]) (k:=0) (m:=2) (n:=2) (g:=qQ) (cl:=zW t) t.d_is_inner.fn zd8 rfl rfl fun cdv A outer s H E hr =>
   (zE (yc (yq (call_any rfl) n_any rfl t.n_any boot_any (zj (uh (x := "piece") (caps:=[1]) (xJ (fs:=zu kh) (N:=["pieces", "text"]) rfl rfl (by decide +kernel)) rfl (xi_tup (zm 0 (pv 0))) ⟨fun _ _ _ _ _=>(z9 (i:=0) (kI (N:=["piece", "text"]) rfl (by decide +kernel)) rfl (Or.inl rfl)),fun _ _ _ _ _=>wZ,fun _ _ _ _ _=>(zb0 (jM (zm 0 (pv 0)) (zm 1 (pv 1)) ⟨zb,rfl,rfl,rfl,rfl⟩) (zbw (xe_cmp (vO hr.units) o_ne (zm 0 (pv 0)) (zm 1 (pv 1)) (xY _))))⟩) zx rfl) rfl)))
theorem sc_first_text_apart:FnScope ["many", "pieces", "inner", "longer", "text"] ["many", "pieces"] (zu yX):=⟨rfl,rfl,rfl,by decide +kernel,rfl,by decide +kernel,by decide +kernel⟩
theorem je (t:Txt K mg):FnOk P w K mg base (CX1 P w) 2 t.d_first_text_apart.f t.d_first_text_apart.fd ["many", "pieces"] (spD K (zW t) yP 2) :=
 show FnOk P w K mg base (CX1 P w) 2 t.d_first_text_apart.f t.d_first_text_apart.fd ["many", "pieces"] (spD K (zW t) (yJ 5 xW) 2) from
 fnD (N:=["many", "pieces", "inner", "longer", "text"]) (ps:=["many", "pieces"]) (k:=1) (m:=5) (n:=2) (g:=xW) (cl:=zW t) t.d_first_text_apart.fn sc_first_text_apart rfl rfl fun cdv A outer s H E hr =>
   (zB (xu (i:=2) sc_first_text_apart.nd rfl (Or.inl rfl) (XEw.out (yw_lst (wI (yw_str (l:=[]) (by decide +kernel) (jL (by decide +kernel) (by decide +kernel))) zbX zG))))
   (zB (zaq (xs_while 2000 PassesOwn.never (za4 (vO hr.units) o_ne (zm 2 (pv 2)) (xe_lst zx) (xY _))
   (zB (xu (i:=3) sc_first_text_apart.nd rfl (Or.inl rfl) (zK (ok_gone_on t) (hr.mono (by decide)) rfl t.d_gone_on.mg t.d_gone_on.fn.kp t.d_gone_on.bd zbK (zj (zm 0 (pv 0)) (zj (zm 2 (pv 2)) zx zb) zb) zb))
   (zB (zbq (i:=4) PassesOwn.never rfl (zak (zm 3 (pv 3))) (z9 (i:=4) sc_first_text_apart.nd rfl (Or.inl rfl))
   (zE (zaB (jU (zK (zdZ t) (hr.mono (by decide)) rfl t.d_is_apart.mg t.d_is_apart.fn.kp t.d_is_apart.bd zbK (zj (zm 1 (pv 1)) (zj (zm 4 (pv 4)) zx zb) zb) zb))
   (zE (yc (zm 4 (pv 4))))
   w5)))
   (zE (xs_comp (j:=2) sc_first_text_apart.nd rfl rfl (x := "text") (caps:=[1]) (xJ (fs:=zu yX) (N:=["many", "pieces", "inner", "longer", "text"]) rfl rfl (by decide +kernel)) rfl (zak (zm 3 (pv 3))) ⟨fun _ _ _ _ _=>(z9 (i:=0) (kI (N:=["text", "pieces"]) rfl (by decide +kernel)) rfl (Or.inl rfl)),fun _ _ _ _ _=>(xts_one (jU (zK (zer t) (hr.mono (by decide)) rfl t.d_is_inner.mg t.d_is_inner.fn.kp t.d_is_inner.bd zbK (zj (zm 1 (pv 1)) (zj (zm 0 (pv 0)) zx zb) zb) zb))),fun _ _ _ _ _=>(zm 0 (pv 0))⟩ rfl))))))
   (zE (yc xe_non))))
theorem sc_first_paper:FnScope ["many", "pieces", "pair"] ["many", "pieces"] (zu uP):=⟨rfl,rfl,rfl,by decide +kernel,rfl,by decide +kernel,by decide +kernel⟩
theorem zbJ (t:Txt K mg):FnOk P w K mg base (CX1 P w) 3 t.d_first_paper.f t.d_first_paper.fd ["many", "pieces"] (spD K (zW t) wN 2) :=
 show FnOk P w K mg base (CX1 P w) 3 t.d_first_paper.f t.d_first_paper.fd ["many", "pieces"] (spD K (zW t) (yJ 3 wz) 2) from
 fnD (N:=["many", "pieces", "pair"]) (ps:=["many", "pieces"]) (k:=2) (m:=3) (n:=2) (g:=wz) (cl:=zW t) t.d_first_paper.fn sc_first_paper rfl rfl fun cdv A outer s H E hr =>
   (zB (xu (i:=2) sc_first_paper.nd rfl (Or.inl rfl) (zK (zci t) (hr.mono (by decide)) rfl t.d_first_pair.mg t.d_first_pair.fn.kp t.d_first_pair.bd zU (zj (zm 1 (pv 1)) zx zb) zb))
   (zB (zaB (xt_notN (zm 2 (pv 2)))
   (zE (yc (zm 2 (pv 2))))
   w5)
   (zE (yc (zK (je t) (hr.mono (by decide)) rfl t.d_first_text_apart.mg t.d_first_text_apart.fn.kp t.d_first_text_apart.bd zU (zj (zm 0 (pv 0)) (zj (zm 1 (pv 1)) zx zb) zb) zb)))))
theorem sc_is_book:FnScope ["many", "thing"] ["many", "thing"] (zu zaU):=⟨rfl,rfl,rfl,by decide +kernel,rfl,by decide +kernel,by decide +kernel⟩
theorem ok_is_book (t:Txt K mg):FnOk P w K mg base (CX1 P w) 5 t.d_is_book.f t.d_is_book.fd ["many", "thing"] (spD K (zW t) qU 2) :=
 show FnOk P w K mg base (CX1 P w) 5 t.d_is_book.f t.d_is_book.fd ["many", "thing"] (spD K (zW t) (yJ 2 za5) 2) from
 fnD (N:=["many", "thing"]) (ps:=["many", "thing"]) (k:=4) (m:=2) (n:=2) (g:=za5) (cl:=zW t) t.d_is_book.fn sc_is_book rfl rfl fun cdv A outer s H E hr =>
   (zE (yc (zb0 (zK (zcA t) (hr.mono (by decide)) rfl t.d_are_pieces.mg t.d_are_pieces.fn.kp t.d_are_pieces.bd zU (zj (zm 0 (pv 0)) (zj (zm 1 (pv 1)) zx zb) zb) zb) (zbw (xe_isN (zK (zbJ t) (hr.mono (by decide)) rfl t.d_first_paper.mg t.d_first_paper.fn.kp t.d_first_paper.bd zU (zj (zm 0 (pv 0)) (zj (zm 1 (pv 1)) zx zb) zb) zb))))))
theorem za6:FnScope ["many", "thing"] ["many", "thing"] (zu v9):=⟨rfl,rfl,rfl,by decide +kernel,rfl,by decide +kernel,by decide +kernel⟩
theorem wA (t:Txt K mg):FnOk P w K mg base (CX1 P w) 6 t.d_require_book.f t.d_require_book.fd ["many", "thing"] (spD K (zW t) zT 2) :=
 show FnOk P w K mg base (CX1 P w) 6 t.d_require_book.f t.d_require_book.fd ["many", "thing"] (spD K (zW t) (yJ 2 ux) 2) from
 fnD (N:=["many", "thing"]) (ps:=["many", "thing"]) (k:=5) (m:=2) (n:=2) (g:=ux) (cl:=zW t) t.d_require_book.fn za6 rfl rfl fun cdv A outer s H E hr =>
   (zE (zaB (zbt (jU (zK (ok_is_book t) (hr.mono (by decide)) rfl t.d_is_book.mg t.d_is_book.fn.kp t.d_is_book.bd zU (zj (zm 0 (pv 0)) (zj (zm 1 (pv 1)) zx zb) zb) zb)))
   (zE (zcF t.x_NoBook rfl rfl (zj (xU (l:=[116,104,105,115,32,105,115,32,110,111,32,98,111,111,107,32,111,102,32,115,111,32,109,97,110,121,32,108,101,116,116,101,114,115]) (by decide +kernel) (jL (by decide +kernel) (by decide +kernel))) zx zG) zG))
   w5))
theorem jF:FnScope ["many", "thing"] ["many", "thing"] (zu wF):=⟨rfl,rfl,rfl,by decide +kernel,rfl,by decide +kernel,by decide +kernel⟩
theorem wj (t:Txt K mg):FnOk P w K mg base (CX1 P w) 2 t.d_require_text_of.f t.d_require_text_of.fd ["many", "thing"] (spD K (zW t) zV 2) :=
 show FnOk P w K mg base (CX1 P w) 2 t.d_require_text_of.f t.d_require_text_of.fd ["many", "thing"] (spD K (zW t) (yJ 2 wJ) 2) from
 fnD (N:=["many", "thing"]) (ps:=["many", "thing"]) (k:=1) (m:=2) (n:=2) (g:=wJ) (cl:=zW t) t.d_require_text_of.fn jF rfl rfl fun cdv A outer s H E hr =>
   (zE (zaB (zbt (jU (zK (jY t) (hr.mono (by decide)) rfl t.d_is_text_of.mg t.d_is_text_of.fn.kp t.d_is_text_of.bd zU (zj (zm 0 (pv 0)) (zj (zm 1 (pv 1)) zx zb) zb) zb)))
   (zE (zcF t.x_NoLetters rfl rfl (zj (xU (l:=[116,104,105,115,32,105,115,32,110,111,32,116,101,120,116,32,111,102,32,116,104,101,115,101,32,108,101,116,116,101,114,115]) (by decide +kernel) (jL (by decide +kernel) (by decide +kernel))) zx zG) zG))
   w5))
theorem sc_cut_by:FnScope ["book", "text", "pieces", "left", "letter"] ["book", "text"] (zu zcz):=⟨rfl,rfl,rfl,by decide +kernel,rfl,by decide +kernel,by decide +kernel⟩
theorem zbc (t:Txt K mg):FnOk P w K mg base (CX1 P w) 1 t.d_cut_by.f t.d_cut_by.fd ["book", "text"] (spD K (zW t) qJ 2) :=
 show FnOk P w K mg base (CX1 P w) 1 t.d_cut_by.f t.d_cut_by.fd ["book", "text"] (spD K (zW t) (yJ 5 jO) 2) from
 fnD (N:=["book", "text", "pieces", "left", "letter"]) (ps:=["book", "text"]) (k:=0) (m:=5) (n:=2) (g:=jO) (cl:=zW t) t.d_cut_by.fn sc_cut_by rfl rfl fun cdv A outer s H E hr =>
   (zB (zd0 (i:=2) sc_cut_by.nd rfl (Or.inl rfl) (xl_lst zx))
   (zB (xu (i:=3) sc_cut_by.nd rfl (Or.inl rfl) (xU (l:=[]) (by decide +kernel) (jL (by decide +kernel) (by decide +kernel))))
   (zB (zaq (zbq (i:=4) PassesOwn.never rfl (xi_str (zm 1 (pv 1))) (z9 (i:=4) sc_cut_by.nd rfl (Or.inl rfl))
   (zB (xu (i:=3) sc_cut_by.nd rfl (Or.inl rfl) (yN um jc (zm 3 (pv 3)) (zm 4 (pv 4))))
   (zE (zaB (za4 op_in_seq o_in (zm 3 (pv 3)) (zm 0 (pv 0)) (by with_unfolding_all rfl))
   (zB (zdK (pv 2) (zm 3 (pv 3)) ⟨zb,rfl,rfl,rfl,rfl⟩)
   (zE (xu (i:=3) sc_cut_by.nd rfl (Or.inl rfl) (xU (l:=[]) (by decide +kernel) (jL (by decide +kernel) (by decide +kernel))))))
   w5)))))
   (zE (xs_ice (i:=2) (yc (zdq (zj (zm 2 (pv 2)) (zj (zm 3 (pv 3)) zx zb) zb))))))))
theorem sc_bits_for:FnScope ["size", "bits", "room"] ["size"] (zu j9):=⟨rfl,rfl,rfl,by decide +kernel,rfl,by decide +kernel,by decide +kernel⟩
theorem zaR (t:Txt K mg):FnOk P w K mg base (CX1 P w) 1 t.d_bits_for.f t.d_bits_for.fd ["size"] (spD K (zW t) uV 1) :=
 show FnOk P w K mg base (CX1 P w) 1 t.d_bits_for.f t.d_bits_for.fd ["size"] (spD K (zW t) (yJ 3 zaa) 1) from
 fnD (N:=["size", "bits", "room"]) (ps:=["size"]) (k:=0) (m:=3) (n:=1) (g:=zaa) (cl:=zW t) t.d_bits_for.fn sc_bits_for rfl rfl fun cdv A outer s H E hr =>
   (zB (xu (i:=1) sc_bits_for.nd rfl (Or.inl rfl) zN)
   (zB (xu (i:=2) sc_bits_for.nd rfl (Or.inl rfl) zN)
   (zB (zaq (xs_while 64 PassesOwn.never (za4 op_lt o_ltI (zm 2 (pv 2)) (zm 0 (pv 0)) (xY _))
   (zB (xu (i:=1) sc_bits_for.nd rfl (Or.inl rfl) (yN uz uF (zm 1 (pv 1)) zN))
   (zE (xu (i:=2) sc_bits_for.nd rfl (Or.inl rfl) (yN ju zbo (zm 2 (pv 2)) zN))))))
   (zE (yc (zm 1 (pv 1)))))))
theorem sc_word_for:FnScope ["number", "bits", "word", "place"] ["number", "bits"] (zu zac):=⟨rfl,rfl,rfl,by decide +kernel,rfl,by decide +kernel,by decide +kernel⟩
theorem zdW (t:Txt K mg):FnOk P w K mg base (CX1 P w) 1 t.d_word_for.f t.d_word_for.fd ["number", "bits"] (spD K (zW t) uY 2) :=
 show FnOk P w K mg base (CX1 P w) 1 t.d_word_for.f t.d_word_for.fd ["number", "bits"] (spD K (zW t) (yJ 4 zad) 2) from
 fnD (N:=["number", "bits", "word", "place"]) (ps:=["number", "bits"]) (k:=0) (m:=4) (n:=2) (g:=zad) (cl:=zW t) t.d_word_for.fn sc_word_for rfl rfl fun cdv A outer s H E hr =>
   (zB (xu (i:=2) sc_word_for.nd rfl (Or.inl rfl) (xU (l:=[]) (by decide +kernel) (jL (by decide +kernel) (by decide +kernel))))
   (zB (zaq (zbq (i:=3) PassesOwn.never rfl (vy rfl t.n_range (zj (zm 1 (pv 1)) zx zb) rfl) (z9 (i:=3) sc_word_for.nd rfl (Or.inl rfl))
   (zB (xu (i:=2) sc_word_for.nd rfl (Or.inl rfl) (yN um jc (zdn zda n_str rfl t.n_str boot_str (zj (yN zap zat (zm 0 (pv 0)) zN) zx wM) wM) (zm 2 (pv 2))))
   (zE (xu (i:=0) sc_word_for.nd rfl (Or.inl rfl) (yN jZ zbz (zm 0 (pv 0)) zN))))))
   (zE (yc (zm 2 (pv 2))))))
theorem sc_words_of:FnScope ["book", "bits"] ["book"] (zu q9):=⟨rfl,rfl,rfl,by decide +kernel,rfl,by decide +kernel,by decide +kernel⟩
theorem za1 (t:Txt K mg):FnOk P w K mg base (CX1 P w) 2 t.d_words_of.f t.d_words_of.fd ["book"] (spD K (zW t) uR 1) :=
 show FnOk P w K mg base (CX1 P w) 2 t.d_words_of.f t.d_words_of.fd ["book"] (spD K (zW t) (yJ 2 j5) 1) from
 fnD (N:=["book", "bits"]) (ps:=["book"]) (k:=1) (m:=2) (n:=1) (g:=j5) (cl:=zW t) t.d_words_of.fn sc_words_of rfl rfl fun cdv A outer s H E hr =>
   (zB (xu (i:=1) sc_words_of.nd rfl (Or.inr rfl) (zK (zaR t) (hr.mono (by decide)) rfl t.d_bits_for.mg t.d_bits_for.fn.kp t.d_bits_for.bd zU (zj (yq yW n_len rfl t.n_len boot_len (zj (zm 0 (pv 0)) zx zb) zb) zx zR) zR))
   (zE (yc (uh (x := "number") (caps:=[1]) (xJ (fs:=zu q9) (N:=["book", "bits"]) rfl rfl (by decide +kernel)) rfl (vy rfl t.n_range (zj (yq yW n_len rfl t.n_len boot_len (zj (zm 0 (pv 0)) zx zb) zb) zx zR) rfl) ⟨fun _ _ _ _ _=>(z9 (i:=0) (kI (N:=["number", "bits"]) rfl (by decide +kernel)) rfl (Or.inl rfl)),fun _ _ _ _ _=>wZ,fun _ _ _ _ _=>(zK (zdW t) (hr.mono (by decide)) rfl t.d_word_for.mg t.d_word_for.fn.kp t.d_word_for.bd zbK (zj (zm 0 (pv 0)) (zj (zm 1 (pv 1)) zx zb) zb) zb)⟩))))
theorem sc_led_by:FnScope ["book", "text", "found", "words"] ["book", "text"] (zu zaO):=⟨rfl,rfl,rfl,by decide +kernel,rfl,by decide +kernel,by decide +kernel⟩
theorem za0 (t:Txt K mg):FnOk P w K mg base (CX1 P w) 3 t.d_led_by.f t.d_led_by.fd ["book", "text"] (spD K (zW t) uG 2) :=
 show FnOk P w K mg base (CX1 P w) 3 t.d_led_by.f t.d_led_by.fd ["book", "text"] (spD K (zW t) (yJ 4 zcm) 2) from
 fnD (N:=["book", "text", "found", "words"]) (ps:=["book", "text"]) (k:=2) (m:=4) (n:=2) (g:=zcm) (cl:=zW t) t.d_led_by.fn sc_led_by rfl rfl fun cdv A outer s H E hr =>
   (zB (xu (i:=2) sc_led_by.nd rfl (Or.inl rfl) (zK (zbc t) (hr.mono (by decide)) rfl t.d_cut_by.mg t.d_cut_by.fn.kp t.d_cut_by.bd zU (zj (zm 0 (pv 0)) (zj (zm 1 (pv 1)) zx zb) zb) zb))
   (zB (xu (i:=3) sc_led_by.nd rfl (Or.inr rfl) (zb8 rfl rfl t.n_dict rfl t.n_zip (zm 0 (pv 0)) (zK (za1 t) (hr.mono (by decide)) rfl t.d_words_of.mg t.d_words_of.fn.kp t.d_words_of.bd zU (zj (zm 0 (pv 0)) zx zb) zb)))
   (zE (yc (zdq (zj (zcG (xU (l:=[]) (by decide +kernel) (jL (by decide +kernel) (by decide +kernel))) (uh (x := "piece") (caps:=[3]) (xJ (fs:=zu zaO) (N:=["book", "text", "found", "words"]) rfl rfl (by decide +kernel)) rfl (zak (zbn (zm 2 (pv 2)) zN (fun _ _=>rfl))) ⟨fun _ _ _ _ _=>(z9 (i:=0) (kI (N:=["piece", "words"]) rfl (by decide +kernel)) rfl (Or.inl rfl)),fun _ _ _ _ _=>wZ,fun _ _ _ _ _=>(xe_get (hu_of hr) (zm 1 (pv 1)) (zm 0 (pv 0)))⟩) ⟨rfl,rfl,rfl,rfl,rfl⟩) (zj (zbn (zm 2 (pv 2)) zN (fun _ _=>rfl)) zx jE) zR))))))
theorem sc_led:FnScope ["many", "book", "text"] ["many", "book", "text"] (zu s_led):=⟨rfl,rfl,rfl,by decide +kernel,rfl,by decide +kernel,by decide +kernel⟩
theorem ok_led (t:Txt K mg):FnOk P w K mg base (CX1 P w) 7 t.d_led.f t.d_led.fd ["many", "book", "text"] (spD K (zW t) zb3 3) :=
 show FnOk P w K mg base (CX1 P w) 7 t.d_led.f t.d_led.fd ["many", "book", "text"] (spD K (zW t) (yJ 3 g_led) 3) from
 fnD (N:=["many", "book", "text"]) (ps:=["many", "book", "text"]) (k:=6) (m:=3) (n:=3) (g:=g_led) (cl:=zW t) t.d_led.fn sc_led rfl rfl fun cdv A outer s H E hr =>
   (zB (zaW (zK (wA t) (hr.mono (by decide)) rfl t.d_require_book.mg t.d_require_book.fn.kp t.d_require_book.bd zU (zj (zm 0 (pv 0)) (zj (zm 1 (pv 1)) zx zb) zb) zb))
   (zB (zaW (zK (wj t) (hr.mono (by decide)) rfl t.d_require_text_of.mg t.d_require_text_of.fn.kp t.d_require_text_of.bd zU (zj (zm 0 (pv 0)) (zj (zm 2 (pv 2)) zx zb) zb) zb))
   (zE (yc (zK (za0 t) (hr.mono (by decide)) rfl t.d_led_by.mg t.d_led_by.fn.kp t.d_led_by.bd zU (zj (zm 1 (pv 1)) (zj (zm 2 (pv 2)) zx zb) zb) zb)))))
theorem zbP:FnScope ["self"] ["self"] (zu uI):=⟨rfl,rfl,rfl,by decide +kernel,rfl,by decide +kernel,by decide +kernel⟩
theorem uf (t:Txt K mg):FnOk P w K mg base (CX1 P w) 1 t.m_left.f t.m_left.fd ["self"] (spS K (zW t) (zA t.o_Stream.C) yx 1 0) :=
 show FnOk P w K mg base (CX1 P w) 1 t.m_left.f t.m_left.fd ["self"] (spS K (zW t) (zA t.o_Stream.C) (zcY 1 0 u6) 1 0) from
 fnS (kd:=(zA t.o_Stream.C)) (j:=0) (N:=["self"]) (ps:=["self"]) (k:=0) (m:=1) (n:=1) (g:=u6) (cl:=zW t) t.m_left.fn zbP rfl rfl fun cdv A outer s H E hr =>
   (uM (ji (xe2_ixL (i:=3) (j:=-1) in_3 ⟨t.o_Stream.cl,t.a_rests,rfl,ye,rfl⟩ (pv 0) (show XE _ _ E _ (fC (.int (-1))) from(xe_neg zN)) (fun _ _=>rfl))))
theorem sc_Stream_go_on:FnScope ["self", "text", "found"] ["self", "text"] (zu uq):=⟨rfl,rfl,rfl,by decide +kernel,rfl,by decide +kernel,by decide +kernel⟩
theorem za8 (t:Txt K mg):FnOk P w K mg base (CX1 P w) 4 t.m_go_on.f t.m_go_on.fd ["self", "text"] (spS K (zW t) (zA t.o_Stream.C) vz 2 0) :=
 show FnOk P w K mg base (CX1 P w) 4 t.m_go_on.f t.m_go_on.fd ["self", "text"] (spS K (zW t) (zA t.o_Stream.C) (zcY 3 0 wQ) 2 0) from
 fnS (kd:=(zA t.o_Stream.C)) (j:=0) (N:=["self", "text", "found"]) (ps:=["self", "text"]) (k:=3) (m:=3) (n:=2) (g:=wQ) (cl:=zW t) t.m_go_on.fn sc_Stream_go_on rfl rfl fun cdv A outer s H E hr =>
   (qw (xs2_set (i:=2) (by decide) sc_Stream_go_on.nd rfl (Or.inl rfl) (jG (za0 t) (hr.mono (by decide)) rfl t.d_led_by.mg t.d_led_by.fn.kp t.d_led_by.bd zU (yE (zcx (i:=1) ⟨t.o_Stream.cl,t.a_chosen,rfl,ye,rfl⟩ (pv 0)) (yE (xe2_op um jc (yZ (E:=E) t.o_Stream.cl t.m_left.me zek (uf t) (hr.mono (by decide)) t.m_left.bd zU (pv 0)) (kZ (E:=E) (zm 1 (pv 1)))) jr wM) rfl) rfl))
   (qw (zaL (xe2_app (i:=2) in_2 ⟨t.o_Stream.cl,t.a_done,rfl,ye,rfl⟩ (pv 0) (kZ (E:=E) (zm 1 (pv 1))) ⟨zb,rfl,rfl,rfl,rfl⟩))
   (qw (zaL (xe2_app (i:=3) in_3 ⟨t.o_Stream.cl,t.a_rests,rfl,ye,rfl⟩ (pv 0) (kZ (E:=E) (zbn (zm 2 (pv 2)) zN (fun _ _=>rfl))) ⟨jE,rfl,rfl,rfl,rfl⟩))
   (uM (ji (kZ (E:=E) (zbn (zm 2 (pv 2)) zN (fun _ _=>rfl))))))))
theorem zbH:FnScope ["self", "text"] ["self", "text"] (zu u9):=⟨rfl,rfl,rfl,by decide +kernel,rfl,by decide +kernel,by decide +kernel⟩
theorem wO (t:Txt K mg):FnOk P w K mg base (CX1 P w) 5 t.m_tell.f t.m_tell.fd ["self", "text"] (spS K (zW t) (zA t.o_Stream.C) yh 2 0) :=
 show FnOk P w K mg base (CX1 P w) 5 t.m_tell.f t.m_tell.fd ["self", "text"] (spS K (zW t) (zA t.o_Stream.C) (zcY 2 0 w6) 2 0) from
 fnS (kd:=(zA t.o_Stream.C)) (j:=0) (N:=["self", "text"]) (ps:=["self", "text"]) (k:=4) (m:=2) (n:=2) (g:=w6) (cl:=zW t) t.m_tell.fn zbH rfl rfl fun cdv A outer s H E hr =>
   (qw (zaL (jG (wj t) (hr.mono (by decide)) rfl t.d_require_text_of.mg t.d_require_text_of.fn.kp t.d_require_text_of.bd zU (yE (zcx (i:=0) ⟨t.o_Stream.cl,t.a_many,rfl,ye,rfl⟩ (pv 0)) (yE (kZ (E:=E) (zm 1 (pv 1))) jr zb) rfl) rfl))
   (qw (zaL (xe2_clr (i:=4) in_4 ⟨t.o_Stream.cl,t.a_undone,rfl,ye,rfl⟩ (pv 0) rfl rfl))
   (uM (ji (xe2_meth (E:=E) t.o_Stream.cl t.m_go_on.me no_go_on (za8 t) (hr.mono (by decide)) t.m_go_on.bd zU (pv 0) (xa2_up (E:=E) (zj (zm 1 (pv 1)) zx zb)) zb)))))
theorem jX:FnScope ["self", "many", "book"] ["self", "many", "book"] (zu wK):=⟨rfl,rfl,rfl,by decide +kernel,rfl,by decide +kernel,by decide +kernel⟩
theorem jV (t:Txt K mg):FnOk P w K mg base (CX1 P w) 7 t.m___init__.f t.m___init__.fd ["self", "many", "book"] (spI K (zW t) (zA t.o_Stream.C) uE 3) :=
 show FnOk P w K mg base (CX1 P w) 7 t.m___init__.f t.m___init__.fd ["self", "many", "book"] (spI K (zW t) (zA t.o_Stream.C) (runI 3 (zA t.o_Stream.C) xH) 3) from
 fnI (kd:=(zA t.o_Stream.C)) (N:=["self", "many", "book"]) (ps:=["self", "many", "book"]) (k:=6) (m:=3) (n:=3) (g:=xH) (cl:=zW t) t.m___init__.fn jX rfl rfl fun cdv A outer s H E hr =>
   (jW (xi1_expr (E:=E) (zK (wA t) (hr.mono (by decide)) rfl t.d_require_book.mg t.d_require_book.fn.kp t.d_require_book.bd zU (zj (zm 1 (pv 1)) (zj (zm 2 (pv 2)) zx zb) zb) zb))
   (jW (xi1_dt (E:=E) 0 t.o_Stream.cl t.a_many rfl ye (show 5<1000 by decide) (pv 0) (zm 1 (pv 1)))
   (jW (xi1_dt (E:=E) 1 t.o_Stream.cl t.a_chosen rfl ye (show 5<1000 by decide) (pv 0) (zm 2 (pv 2)))
   (jW (xi1_ls (E:=E) 2 t.o_Stream.cl t.a_done rfl ye (show 5<1000 by decide) (pv 0) zx)
   (jW (xi1_ls (E:=E) 3 t.o_Stream.cl t.a_rests rfl ye (show 5<1000 by decide) (pv 0) (zj (xU (l:=[]) (by decide +kernel) (jL (by decide +kernel) (by decide +kernel))) zx zG))
   (xis_one (xi1_ls (E:=E) 4 t.o_Stream.cl t.a_undone rfl ye (show 5<1000 by decide) (pv 0) zx)))))))
theorem zbS:FnScope ["self"] ["self"] (zu uJ):=⟨rfl,rfl,rfl,by decide +kernel,rfl,by decide +kernel,by decide +kernel⟩
theorem wR (t:Txt K mg):FnOk P w K mg base (CX1 P w) 1 t.m_text.f t.m_text.fd ["self"] (spS K (zW t) (zA t.o_Stream.C) yw 1 0) :=
 show FnOk P w K mg base (CX1 P w) 1 t.m_text.f t.m_text.fd ["self"] (spS K (zW t) (zA t.o_Stream.C) (zcY 1 0 uN) 1 0) from
 fnS (kd:=(zA t.o_Stream.C)) (j:=0) (N:=["self"]) (ps:=["self"]) (k:=0) (m:=1) (n:=1) (g:=uN) (cl:=zW t) t.m_text.fn zbS rfl rfl fun cdv A outer s H E hr =>
   (uM (ji (xe2_joinL (E:=E) (i:=2) in_2 ⟨t.o_Stream.cl,t.a_done,rfl,ye,rfl⟩ (pv 0) (xU (l:=[]) (by decide +kernel) (jL (by decide +kernel) (by decide +kernel))) ⟨rfl,rfl,rfl,rfl,rfl⟩)))
theorem za3:FnScope ["self"] ["self"] (zu ur):=⟨rfl,rfl,rfl,by decide +kernel,rfl,by decide +kernel,by decide +kernel⟩
theorem yH (t:Txt K mg):FnOk P w K mg base (CX1 P w) 4 t.m_signs.f t.m_signs.fd ["self"] (spS K (zW t) (zA t.o_Stream.C) zO 1 0) :=
 show FnOk P w K mg base (CX1 P w) 4 t.m_signs.f t.m_signs.fd ["self"] (spS K (zW t) (zA t.o_Stream.C) (zcY 1 0 ug) 1 0) from
 fnS (kd:=(zA t.o_Stream.C)) (j:=0) (N:=["self"]) (ps:=["self"]) (k:=3) (m:=1) (n:=1) (g:=ug) (cl:=zW t) t.m_signs.fn za3 rfl rfl fun cdv A outer s H E hr =>
   (uM (ji (xe2_ix (jG (za0 t) (hr.mono (by decide)) rfl t.d_led_by.mg t.d_led_by.fn.kp t.d_led_by.bd zU (yE (zcx (i:=1) ⟨t.o_Stream.cl,t.a_chosen,rfl,ye,rfl⟩ (pv 0)) (yE (yZ (E:=E) t.o_Stream.cl t.m_text.me zce (wR t) (hr.mono (by decide)) t.m_text.bd zU (pv 0)) jr zR) rfl) rfl) (kZ (E:=E) zN) (fun _ _=>rfl))))
theorem zaE:FnScope ["self"] ["self"] (zu vp):=⟨rfl,rfl,rfl,by decide +kernel,rfl,by decide +kernel,by decide +kernel⟩
theorem qj (t:Txt K mg):FnOk P w K mg base (CX1 P w) 2 t.m_pieces.f t.m_pieces.fd ["self"] (spS K (zW t) (zA t.o_Stream.C) yr 1 0) :=
 show FnOk P w K mg base (CX1 P w) 2 t.m_pieces.f t.m_pieces.fd ["self"] (spS K (zW t) (zA t.o_Stream.C) (zcY 1 0 vH) 1 0) from
 fnS (kd:=(zA t.o_Stream.C)) (j:=0) (N:=["self"]) (ps:=["self"]) (k:=1) (m:=1) (n:=1) (g:=vH) (cl:=zW t) t.m_pieces.fn zaE rfl rfl fun cdv A outer s H E hr =>
   (uM (ji (xe2_ix (jG (zbc t) (hr.mono (by decide)) rfl t.d_cut_by.mg t.d_cut_by.fn.kp t.d_cut_by.bd zU (yE (zcx (i:=1) ⟨t.o_Stream.cl,t.a_chosen,rfl,ye,rfl⟩ (pv 0)) (yE (yZ (E:=E) t.o_Stream.cl t.m_text.me zce (wR t) (hr.mono (by decide)) t.m_text.bd zU (pv 0)) jr zR) rfl) rfl) (kZ (E:=E) zN) (fun _ _=>rfl))))
theorem zaS:FnScope ["self"] ["self"] (zu uw):=⟨rfl,rfl,rfl,by decide +kernel,rfl,by decide +kernel,by decide +kernel⟩
theorem zbe (t:Txt K mg):FnOk P w K mg base (CX1 P w) 1 t.m_steps.f t.m_steps.fd ["self"] (spS K (zW t) (zA t.o_Stream.C) yG 1 0) :=
 show FnOk P w K mg base (CX1 P w) 1 t.m_steps.f t.m_steps.fd ["self"] (spS K (zW t) (zA t.o_Stream.C) (zcY 1 0 uo) 1 0) from
 fnS (kd:=(zA t.o_Stream.C)) (j:=0) (N:=["self"]) (ps:=["self"]) (k:=0) (m:=1) (n:=1) (g:=uo) (cl:=zW t) t.m_steps.fn zaS rfl rfl fun cdv A outer s H E hr =>
   (uM (ji (xe2_tup (yE (zdw (i:=2) (g:=qp) in_2 ⟨t.o_Stream.cl,t.a_done,rfl,ye,rfl⟩ (pv 0) yW n_len rfl t.n_len boot_len rfl) (yE (zdw (i:=4) (g:=qp) in_4 ⟨t.o_Stream.cl,t.a_undone,rfl,ye,rfl⟩ (pv 0) yW n_len rfl t.n_len boot_len rfl) jr zR) zR))))
theorem sc_cut:FnScope ["many", "book", "text"] ["many", "book", "text"] (zu s_cut):=⟨rfl,rfl,rfl,by decide +kernel,rfl,by decide +kernel,by decide +kernel⟩
theorem ok_cut (t:Txt K mg):FnOk P w K mg base (CX1 P w) 7 t.d_cut.f t.d_cut.fd ["many", "book", "text"] (spD K (zW t) zdO 3) :=
 show FnOk P w K mg base (CX1 P w) 7 t.d_cut.f t.d_cut.fd ["many", "book", "text"] (spD K (zW t) (yJ 3 g_cut) 3) from
 fnD (N:=["many", "book", "text"]) (ps:=["many", "book", "text"]) (k:=6) (m:=3) (n:=3) (g:=g_cut) (cl:=zW t) t.d_cut.fn sc_cut rfl rfl fun cdv A outer s H E hr =>
   (zB (zaW (zK (wA t) (hr.mono (by decide)) rfl t.d_require_book.mg t.d_require_book.fn.kp t.d_require_book.bd zU (zj (zm 0 (pv 0)) (zj (zm 1 (pv 1)) zx zb) zb) zb))
   (zB (zaW (zK (wj t) (hr.mono (by decide)) rfl t.d_require_text_of.mg t.d_require_text_of.fn.kp t.d_require_text_of.bd zU (zj (zm 0 (pv 0)) (zj (zm 2 (pv 2)) zx zb) zb) zb))
   (zE (yc (zK (zbc t) (hr.mono (by decide)) rfl t.d_cut_by.mg t.d_cut_by.fn.kp t.d_cut_by.bd zU (zj (zm 1 (pv 1)) (zj (zm 2 (pv 2)) zx zb) zb) zb)))))
theorem sc_whole_words:FnScope ["book", "signs", "bits"] ["book", "signs"] (zu vg):=⟨rfl,rfl,rfl,by decide +kernel,rfl,by decide +kernel,by decide +kernel⟩
theorem zbI (t:Txt K mg):FnOk P w K mg base (CX1 P w) 2 t.d_whole_words.f t.d_whole_words.fd ["book", "signs"] (spD K (zW t) ul 2) :=
 show FnOk P w K mg base (CX1 P w) 2 t.d_whole_words.f t.d_whole_words.fd ["book", "signs"] (spD K (zW t) (yJ 3 uQ) 2) from
 fnD (N:=["book", "signs", "bits"]) (ps:=["book", "signs"]) (k:=1) (m:=3) (n:=2) (g:=uQ) (cl:=zW t) t.d_whole_words.fn sc_whole_words rfl rfl fun cdv A outer s H E hr =>
   (zB (xu (i:=2) sc_whole_words.nd rfl (Or.inr rfl) (zK (zaR t) (hr.mono (by decide)) rfl t.d_bits_for.mg t.d_bits_for.fn.kp t.d_bits_for.bd zU (zj (yq yW n_len rfl t.n_len boot_len (zj (zm 0 (pv 0)) zx zb) zb) zx zR) zR))
   (zB (zaB (XW.xt (xw_or (zbt (jU (zdg kit_str rfl t.n_isinstance (zm 1 (pv 1)) (zbi (v:=.ty "str") rfl t.n_str boot_str rfl) zb))) (xw_or1 (za4 (vO hr.units) o_ne (yN zap zat (yq yW n_len rfl t.n_len boot_len (zj (zm 1 (pv 1)) zx zb) zb) (zm 2 (pv 2))) zN (xY _)))))
   (zE (zcF t.x_NoWord rfl rfl (zj (xU (l:=[116,104,101,115,101,32,97,114,101,32,110,111,32,119,104,111,108,101,32,119,111,114,100,115]) (by decide +kernel) (jL (by decide +kernel) (by decide +kernel))) zx zG) zG))
   w5)
   (zE (yc (uh (x := "start") (caps:=[1,2]) (xJ (fs:=zu vg) (N:=["book", "signs", "bits"]) rfl rfl (by decide +kernel)) rfl (xi_range3 rfl t.n_range (zj zN (zj (yq yW n_len rfl t.n_len boot_len (zj (zm 1 (pv 1)) zx zb) zb) (zj (zm 2 (pv 2)) zx zb) zR) zG) rfl rfl) ⟨fun _ _ _ _ _=>(z9 (i:=0) (kI (N:=["start", "signs", "bits"]) rfl (by decide +kernel)) rfl (Or.inl rfl)),fun _ _ _ _ _=>wZ,fun _ _ _ _ _=>(vP (zm 1 (pv 1)) (uK (zm 0 (pv 0))) (uK (yN uz uF (zm 0 (pv 0)) (zm 2 (pv 2)))))⟩)))))
theorem sc_text_of_words:FnScope ["book", "words", "pieces", "word"] ["book", "words"] (zu xZ):=⟨rfl,rfl,rfl,by decide +kernel,rfl,by decide +kernel,by decide +kernel⟩
theorem zaD (t:Txt K mg):FnOk P w K mg base (CX1 P w) 3 t.d_text_of_words.f t.d_text_of_words.fd ["book", "words"] (spD K (zW t) wY 2) :=
 show FnOk P w K mg base (CX1 P w) 3 t.d_text_of_words.f t.d_text_of_words.fd ["book", "words"] (spD K (zW t) (yJ 4 vB) 2) from
 fnD (N:=["book", "words", "pieces", "word"]) (ps:=["book", "words"]) (k:=2) (m:=4) (n:=2) (g:=vB) (cl:=zW t) t.d_text_of_words.fn sc_text_of_words rfl rfl fun cdv A outer s H E hr =>
   (zB (xu (i:=2) sc_text_of_words.nd rfl (Or.inr rfl) (zb8 rfl rfl t.n_dict rfl t.n_zip (zK (za1 t) (hr.mono (by decide)) rfl t.d_words_of.mg t.d_words_of.fn.kp t.d_words_of.bd zU (zj (zm 0 (pv 0)) zx zb) zb) (zm 0 (pv 0))))
   (zB (zaq (zbq (i:=3) PassesOwn.never rfl (zak (zm 1 (pv 1))) (z9 (i:=3) sc_text_of_words.nd rfl (Or.inl rfl))
   (zE (zaB (xt_notInDc (hu_of hr) (zm 3 (pv 3)) (zm 2 (pv 2)))
   (zE xs_never)
   w5))))
   (zE (yc (zcG (xU (l:=[]) (by decide +kernel) (jL (by decide +kernel) (by decide +kernel))) (uh (x := "word") (caps:=[2]) (xJ (fs:=zu xZ) (N:=["book", "words", "pieces", "word"]) rfl rfl (by decide +kernel)) rfl (zak (zm 1 (pv 1))) ⟨fun _ _ _ _ _=>(z9 (i:=0) (kI (N:=["word", "pieces"]) rfl (by decide +kernel)) rfl (Or.inl rfl)),fun _ _ _ _ _=>wZ,fun _ _ _ _ _=>(xe_get (hu_of hr) (zm 1 (pv 1)) (zm 0 (pv 0)))⟩) ⟨rfl,rfl,rfl,rfl,rfl⟩)))))
theorem sc_from_word:FnScope ["many", "book", "signs", "number", "words"] ["many", "book", "signs", "number"] (zu jo):=⟨rfl,rfl,rfl,by decide +kernel,rfl,by decide +kernel,by decide +kernel⟩
theorem zdb (t:Txt K mg):FnOk P w K mg base (CX1 P w) 7 t.d_from_word.f t.d_from_word.fd ["many", "book", "signs", "number"] (spD K (zW t) qz 4) :=
 show FnOk P w K mg base (CX1 P w) 7 t.d_from_word.f t.d_from_word.fd ["many", "book", "signs", "number"] (spD K (zW t) (yJ 5 jh) 4) from
 fnD (N:=["many", "book", "signs", "number", "words"]) (ps:=["many", "book", "signs", "number"]) (k:=6) (m:=5) (n:=4) (g:=jh) (cl:=zW t) t.d_from_word.fn sc_from_word rfl rfl fun cdv A outer s H E hr =>
   (zB (zaW (zK (wA t) (hr.mono (by decide)) rfl t.d_require_book.mg t.d_require_book.fn.kp t.d_require_book.bd zU (zj (zm 0 (pv 0)) (zj (zm 1 (pv 1)) zx zb) zb) zb))
   (zB (xu (i:=4) sc_from_word.nd rfl (Or.inl rfl) (zK (zbI t) (hr.mono (by decide)) rfl t.d_whole_words.mg t.d_whole_words.fn.kp t.d_whole_words.bd zU (zj (zm 1 (pv 1)) (zj (zm 2 (pv 2)) zx zb) zb) zb))
   (zE (yc (zK (zaD t) (hr.mono (by decide)) rfl t.d_text_of_words.mg t.d_text_of_words.fn.kp t.d_text_of_words.bd zU (zj (zm 1 (pv 1)) (zj (vP (zm 4 (pv 4)) (uK (yq (call_max2 rfl) n_max rfl t.n_max boot_max (zj (zm 3 (pv 3)) (zj zN zx zG) zb) zb)) jA) zx jE) zb) zb)))))
theorem sc_back:FnScope ["many", "book", "signs"] ["many", "book", "signs"] (zu s_back):=⟨rfl,rfl,rfl,by decide +kernel,rfl,by decide +kernel,by decide +kernel⟩
theorem ok_back (t:Txt K mg):FnOk P w K mg base (CX1 P w) 8 t.d_back.f t.d_back.fd ["many", "book", "signs"] (spD K (zW t) zaY 3) :=
 show FnOk P w K mg base (CX1 P w) 8 t.d_back.f t.d_back.fd ["many", "book", "signs"] (spD K (zW t) (yJ 3 g_back) 3) from
 fnD (N:=["many", "book", "signs"]) (ps:=["many", "book", "signs"]) (k:=7) (m:=3) (n:=3) (g:=g_back) (cl:=zW t) t.d_back.fn sc_back rfl rfl fun cdv A outer s H E hr =>
   (zE (yc (zK (zdb t) (hr.mono (by decide)) rfl t.d_from_word.mg t.d_from_word.fn.kp t.d_from_word.bd zU (zj (zm 0 (pv 0)) (zj (zm 1 (pv 1)) (zj (zm 2 (pv 2)) (zj zN zx zG) zb) zb) zb) zb)))
theorem sc_law:FnScope ["_law_script", "_law_many", "_law_book_here", "_law_text_here", "_law_some", "_law_said", "_law_sign", "_law_size", "_law_parts", "_law_signs", "_law_left", "_law_stream", "_law_more", "_law_told"] ["_law_script"] (zu zen):=⟨rfl,rfl,rfl,by decide +kernel,rfl,by decide +kernel,by decide +kernel⟩
theorem ok_law (t:Txt K mg):FnOk P w K mg base (CX1 P w) 9 t.d_law.f t.d_law.fd ["_law_script"] (spD K (zW t) fn_law 1) :=
 show FnOk P w K mg base (CX1 P w) 9 t.d_law.f t.d_law.fd ["_law_script"] (spD K (zW t) (yJ 14 g_law) 1) from
 fnD (N:=["_law_script", "_law_many", "_law_book_here", "_law_text_here", "_law_some", "_law_said", "_law_sign", "_law_size", "_law_parts", "_law_signs", "_law_left", "_law_stream", "_law_more", "_law_told"]) (ps:=["_law_script"]) (k:=8) (m:=14) (n:=1) (g:=g_law) (cl:=zW t) t.d_law.fn sc_law rfl rfl fun cdv A outer s H E hr =>
   (xss_multi (zX (qC (i:=1) (by decide) sc_law.nd rfl (Or.inr rfl) (yQ (E:=E) (yN uz uF zN (zK (xG t) (hr.mono (by decide)) rfl t.d__law_drawn.mg t.d__law_drawn.fn.kp t.d__law_drawn.bd zU (zj (zm 0 (pv 0)) (zj zN (zj zN zx zG) zG) zb) zb))))
   (zX (qC (i:=2) (by decide) sc_law.nd rfl (Or.inr rfl) (yQ (E:=E) (zK (zc5 t) (hr.mono (by decide)) rfl t.d__law_book.mg t.d__law_book.fn.kp t.d__law_book.bd zU (zj (zm 0 (pv 0)) (zj zN (zj (zm 1 (pv 1)) (zj (zK (xG t) (hr.mono (by decide)) rfl t.d__law_drawn.mg t.d__law_drawn.fn.kp t.d__law_drawn.bd zU (zj (zm 0 (pv 0)) (zj zN (zj zN zx zG) zG) zb) zb) zx zR) zb) zG) zb) zb)))
   (zX (qC (i:=3) (by decide) sc_law.nd rfl (Or.inl rfl) (yQ (E:=E) (zK (zal t) (hr.mono (by decide)) rfl t.d__law_text.mg t.d__law_text.fn.kp t.d__law_text.bd zU (zj (zm 0 (pv 0)) (zj zN (zj (zm 1 (pv 1)) (zj zN zx zG) zb) zG) zb) zb)))
   (xssm_makeL (E:=E) (kd:=zA t.o_Stream.C) (q:=4) (j:=0) (js:=[0,1,2]) (x := "_law_k") (caps:=[1,2]) rfl (by decide) rfl (mk_cell sc_law.nd rfl (Or.inr rfl) (xJ (fs:=zu zen) (N:=["_law_script", "_law_many", "_law_book_here", "_law_text_here", "_law_some", "_law_said", "_law_sign", "_law_size", "_law_parts", "_law_signs", "_law_left", "_law_stream", "_law_more", "_law_told"]) rfl rfl (by decide +kernel)) rfl (vy rfl t.n_range (zj zN zx zG) rfl) ⟨fun _ _ _ _ _=>(z9 (i:=0) (kI (N:=["_law_k", "_law_many", "_law_book_here"]) rfl (by decide +kernel)) rfl (Or.inl rfl)),fun _ _ _ _ _=>pe_make (t.o_Stream.mkd t.m___init__) (jV t) (hr.mono (by decide)) rfl t.o_Stream.mgx t.m___init__.bd .nil zbK (zj (zm 1 (pv 1)) (zj (zm 2 (pv 2)) zx zb) zb) (by decide) zb⟩ rfl (.inl rfl))
   (zX (zao (qM (vO hr.units) o_ne (zaH (E:=E) t.o_Stream.cl t.m_tell.me zcU (wO t) (hr.mono (by decide)) t.m_tell.bd zU (zcC (k:=0) (js:=[0,1,2]) (by decide) rfl (pv 4) kW (fun _ _=>rfl)) (xam_up (E:=E) (zj (zm 3 (pv 3)) zx zb)) zb) (qu (E:=E) t.o_Stream.cl t.m_signs.me qZ (yH t) (hr.mono (by decide)) t.m_signs.bd zU (zcC (k:=0) (js:=[0,1,2]) (by decide) rfl (pv 4) kW (fun _ _=>rfl))) (xY _))
   (wu (qe (yQ (E:=E) zbx)))
   vV)
   (zX (qC (i:=5) (by decide) sc_law.nd rfl (Or.inl rfl) (yQ (E:=E) (xU (l:=[]) (by decide +kernel) (jL (by decide +kernel) (by decide +kernel)))))
   (zX (xsm_forI (i:=6) (by decide) PassesOwn.leaving rfl (xim_up (E:=E) (xi_str (zm 3 (pv 3)))) (z9 (i:=6) sc_law.nd rfl (Or.inl rfl))
   (wu (qC (i:=5) (by decide) sc_law.nd rfl (Or.inl rfl) (xem_op um jc (yQ (E:=E) (zm 5 (pv 5))) (zaH (E:=E) t.o_Stream.cl t.m_tell.me zcU (wO t) (hr.mono (by decide)) t.m_tell.bd zU (zcC (k:=1) (js:=[0,1,2]) (by decide) rfl (pv 4) kW (fun _ _=>rfl)) (xam_up (E:=E) (zj (zm 6 (pv 6)) zx zb)) zb)))))
   (zX (qC (i:=7) (by decide) sc_law.nd rfl (Or.inl rfl) (yQ (E:=E) (zK (xG t) (hr.mono (by decide)) rfl t.d__law_drawn.mg t.d__law_drawn.fn.kp t.d__law_drawn.bd zU (zj (zm 0 (pv 0)) (zj zN (zj (yN uz uF (yq yW n_len rfl t.n_len boot_len (zj (zm 3 (pv 3)) zx zb) zb) zN) zx wM) zG) zb) zb)))
   (zX (xsm_comp (E:=E) (i:=8) (qi:=[(1,.l [0,1,2])]) (x := "_law_bit") (caps:=[4]) (by decide) (by decide) sc_law.nd rfl rfl (xJ (fs:=zu zen) (N:=["_law_script", "_law_many", "_law_book_here", "_law_text_here", "_law_some", "_law_said", "_law_sign", "_law_size", "_law_parts", "_law_signs", "_law_left", "_law_stream", "_law_more", "_law_told"]) rfl rfl (by decide +kernel)) rfl (xi_tup (XEw.out (yw_tup (wI (XEw.mk (vP (zm 3 (pv 3)) jA (uK (zm 7 (pv 7))))) (wI (yw_str (l:=[]) (by decide +kernel) (jL (by decide +kernel) (by decide +kernel))) (wI (XEw.mk (vP (zm 3 (pv 3)) (uK (zm 7 (pv 7))) jA)) zbX jE) zG) jE)))) ⟨fun _ _ _ _ _=>(z9 (i:=0) (kI (N:=["_law_bit", "_law_some"]) rfl (by decide +kernel)) rfl (Or.inl rfl)),fun _ _ _ _ _=>(zaH (E:=E0) t.o_Stream.cl t.m_tell.me zcU (wO t) (hr.mono (by decide)) t.m_tell.bd zbK (zcC (k:=2) (js:=[0,1,2]) (by decide) rfl (pv 1) kW (fun _ _=>rfl)) (xam_up (E:=E0) (zj (zm 0 (pv 0)) zx zb)) zb)⟩ rfl)
   (zX (zao (XWm.xt (xwm_or (xtm_up (E:=E) (za4 (vO hr.units) o_ne (zbn (zm 8 (pv 8)) zN (fun _ _=>rfl)) (xU (l:=[]) (by decide +kernel) (jL (by decide +kernel) (by decide +kernel))) (xY _))) (xwm_or (xtm_up (E:=E) (za4 (vO hr.units) o_ne (zcG (xU (l:=[]) (by decide +kernel) (jL (by decide +kernel) (by decide +kernel))) (zm 8 (pv 8)) ⟨zb,rfl,rfl,rfl,rfl⟩) (zm 5 (pv 5)) (xY _))) (xwm_or1 (qM (vO hr.units) o_ne (yQ (E:=E) (zm 5 (pv 5))) (qu (E:=E) t.o_Stream.cl t.m_signs.me qZ (yH t) (hr.mono (by decide)) t.m_signs.bd zU (zcC (k:=0) (js:=[0,1,2]) (by decide) rfl (pv 4) kW (fun _ _=>rfl))) (xY _))))))
   (wu (qe (yQ (E:=E) zbx)))
   vV)
   (zX (xsm_set2 (i:=9) (j:=10) (by decide) (by decide) (pg_two (K:=K) (i:=9) (j:=10) rfl rfl sc_law.nd rfl rfl (Or.inl rfl) (Or.inl rfl)) (yQ (E:=E) (zK (ok_led t) (hr.mono (by decide)) rfl t.d_led.mg t.d_led.fn.kp t.d_led.bd zU (zj (zm 1 (pv 1)) (zj (zm 2 (pv 2)) (zj (zm 3 (pv 3)) zx zb) zb) zb) zb)))
   (zX (xsm_forO (i:=11) (by decide) PassesOwn.leaving rfl (xio_list (by decide) (pv 4)) (z9 (i:=11) sc_law.nd rfl (Or.inl rfl))
   (fun j=>(zX (zao (qM (vO hr.units) o_ne (zck (q:=11) (j:=j) (by simp) (xe2_tup (yE (yZ (E:=E) t.o_Stream.cl t.m_signs.me qZ (yH t) (hr.mono (by decide)) t.m_signs.bd zU (pv 11)) (yE (yZ (E:=E) t.o_Stream.cl t.m_left.me zek (uf t) (hr.mono (by decide)) t.m_left.bd zU (pv 11)) (yE (yZ (E:=E) t.o_Stream.cl t.m_text.me zce (wR t) (hr.mono (by decide)) t.m_text.bd zU (pv 11)) jr zR) zR) zR))) (yQ (E:=E) (zdq (zj (zm 9 (pv 9)) (zj (zm 10 (pv 10)) (zj (zm 3 (pv 3)) zx zb) zb) zb))) (xY _))
   (wu (qe (yQ (E:=E) zbx)))
   vV)
   (zX (zao (qM (vO hr.units) o_ne (zck (q:=11) (j:=j) (by simp) (yZ (E:=E) t.o_Stream.cl t.m_pieces.me zdy (qj t) (hr.mono (by decide)) t.m_pieces.bd zU (pv 11))) (yQ (E:=E) (zbn (zK (ok_cut t) (hr.mono (by decide)) rfl t.d_cut.mg t.d_cut.fn.kp t.d_cut.bd zU (zj (zm 1 (pv 1)) (zj (zm 2 (pv 2)) (zj (zm 3 (pv 3)) zx zb) zb) zb) zb) zN (fun _ _=>rfl))) (xY _))
   (wu (qe (yQ (E:=E) zbx)))
   vV)
   (zX (zao (qM (vO hr.units) o_ne (zck (q:=11) (j:=j) (by simp) (xe2_op um jc (jG (ok_back t) (hr.mono (by decide)) rfl t.d_back.mg t.d_back.fn.kp t.d_back.bd zU (yE (kZ (E:=E) (zm 1 (pv 1))) (yE (kZ (E:=E) (zm 2 (pv 2))) (yE (yZ (E:=E) t.o_Stream.cl t.m_signs.me qZ (yH t) (hr.mono (by decide)) t.m_signs.bd zU (pv 11)) jr zR) zb) zb) zb) (yZ (E:=E) t.o_Stream.cl t.m_left.me zek (uf t) (hr.mono (by decide)) t.m_left.bd zU (pv 11)))) (yQ (E:=E) (zm 3 (pv 3))) (xY _))
   (wu (qe (yQ (E:=E) zbx)))
   vV)
   (wu (zao (qM (vO hr.units) o_ne (zck (q:=11) (j:=j) (by simp) (xe2_op um jc (xe2_join (E:=E) (xU (l:=[]) (by decide +kernel) (jL (by decide +kernel) (by decide +kernel))) (yZ (E:=E) t.o_Stream.cl t.m_pieces.me zdy (qj t) (hr.mono (by decide)) t.m_pieces.bd zU (pv 11)) ⟨zR,rfl,rfl,rfl,rfl⟩) (kZ (E:=E) (zm 10 (pv 10))))) (yQ (E:=E) (zm 3 (pv 3))) (xY _))
   (wu (qe (yQ (E:=E) zbx)))
   vV)))))))
   (zX (zao (qM (vO hr.units) o_ne (xem_compO (x := "_law_stream") (caps:=[]) (xJ (fs:=zu zen) (N:=["_law_script", "_law_many", "_law_book_here", "_law_text_here", "_law_some", "_law_said", "_law_sign", "_law_size", "_law_parts", "_law_signs", "_law_left", "_law_stream", "_law_more", "_law_told"]) rfl rfl (by decide +kernel)) rfl (xio_list (by decide) (pv 4)) (by decide) ⟨fun _ _ _ _ _=>(z9 (i:=0) (kI (N:=["_law_stream"]) rfl (by decide +kernel)) rfl (Or.inl rfl)),fun _ _ _ _ _=>(yZ (E:=E0) t.o_Stream.cl t.m_steps.me no_steps (zbe t) (hr.mono (by decide)) t.m_steps.bd zbK (pv 0))⟩) (yQ (E:=E) (XEw.out (yw_lst (wI (yw_tup (wI zdL (wI zdL zbX zG) zG)) (wI (yw_tup (wI (XEw.mk (yq yW n_len rfl t.n_len boot_len (zj (zm 3 (pv 3)) zx zb) zb)) (wI zdL zbX zG) zR)) (wI (yw_tup (wI zdL (wI zdL zbX zG) zG)) zbX zcp) zcp) zcp)))) (xY _))
   (wu (qe (yQ (E:=E) zbx)))
   vV)
   (zX (qC (i:=12) (by decide) sc_law.nd rfl (Or.inl rfl) (yQ (E:=E) (zK (zal t) (hr.mono (by decide)) rfl t.d__law_text.mg t.d__law_text.fn.kp t.d__law_text.bd zU (zj (zm 0 (pv 0)) (zj zN (zj (zm 1 (pv 1)) (zj zN zx zG) zb) zG) zb) zb)))
   (zX (qC (i:=13) (by decide) sc_law.nd rfl (Or.inl rfl) (zaH (E:=E) t.o_Stream.cl t.m_tell.me zcU (wO t) (hr.mono (by decide)) t.m_tell.bd zU (zcC (k:=0) (js:=[0,1,2]) (by decide) rfl (pv 4) kW (fun _ _=>rfl)) (xam_up (E:=E) (zj (zm 12 (pv 12)) zx zb)) zb))
   (zX (zao (qM (vO hr.units) o_ne (qu (E:=E) t.o_Stream.cl t.m_signs.me qZ (yH t) (hr.mono (by decide)) t.m_signs.bd zU (zcC (k:=0) (js:=[0,1,2]) (by decide) rfl (pv 4) kW (fun _ _=>rfl))) (yQ (E:=E) (zbn (zK (ok_led t) (hr.mono (by decide)) rfl t.d_led.mg t.d_led.fn.kp t.d_led.bd zU (zj (zm 1 (pv 1)) (zj (zm 2 (pv 2)) (zj (yN um jc (zm 3 (pv 3)) (zm 12 (pv 12))) zx wM) zb) zb) zb) zN (fun _ _=>rfl))) (xY _))
   (wu (qe (yQ (E:=E) zbx)))
   vV)
   (wu (qe (xem_and (xem_cmp (op_eqD hr.units) o_eq (yQ (E:=E) (yN um jc (zm 9 (pv 9)) (zm 13 (pv 13)))) (qu (E:=E) t.o_Stream.cl t.m_signs.me qZ (yH t) (hr.mono (by decide)) t.m_signs.bd zU (zcC (k:=0) (js:=[0,1,2]) (by decide) rfl (pv 4) kW (fun _ _=>rfl))) (xY _)) (xem_one (xem_cmp (op_eqD hr.units) o_eq (qu (E:=E) t.o_Stream.cl t.m_text.me zce (wR t) (hr.mono (by decide)) t.m_text.bd zU (zcC (k:=1) (js:=[0,1,2]) (by decide) rfl (pv 4) kW (fun _ _=>rfl))) (yQ (E:=E) (zm 3 (pv 3))) (xY _)))))))))))))))))))))))
end
end K64
namespace K64
open PySem L2
theorem all_mk {l:PySem.W.OpenLaw}{w:World}{K:PySem.W.Frag}{h:Heap}{mg:Str→Option Value}{fa CC:Addr}(X:K.In h)(G:h.Ns mainGlobals mg)(hfa:mg "law" = some (.ref fa))
  {vFEWEST_LETTERS vLETTERS vMOST_PIECES:Value}
  (aC:PySem.W.nsIn K mainGlobals "Stream" = some (some (.ref CC))) (pg:PySem.W.plainGet K CC Str.empty=true) (hd:PySem.W.hasDictIn K CC=true) (po:PySem.W.plainOver K CC=true) (sa:PySem.W.findIn K (.ref CC) "__setattr__" = some (some (.builtin "object.__setattr__"))) (mkC:PySem.W.makesIn K CC=true) (kC:PySem.W.keepIn K (.ref CC)=true)
  (na_many:PySem.W.findIn K (.ref CC) "many" = some none)
  (na_chosen:PySem.W.findIn K (.ref CC) "chosen" = some none)
  (na_done:PySem.W.findIn K (.ref CC) "done" = some none)
  (na_rests:PySem.W.findIn K (.ref CC) "rests" = some none)
  (na_undone:PySem.W.findIn K (.ref CC) "undone" = some none)
  (a0:Dz K "_law_cell" jx)
  (a1:Dz K "_law_drawn" qG)
  (a2:Dz K "_law_book" vq)
  (a3:Dz K "_law_text" qg)
  (a4:Dz K "is_rising" u5)
  (a5:Dz K "is_whole" zab)
  (a6:Dz K "is_between" qL)
  (a7:Dz K "is_number_of_letters" yV)
  (a8:Dz K "is_text_of" v7)
  (a9:Dz K "are_pieces" v5)
  (a10:Dz K "first_pair" qI)
  (a11:Dz K "gone_on" zaX)
  (a12:Dz K "is_apart" kj)
  (a13:Dz K "is_inner" kh)
  (a14:Dz K "first_text_apart" yX)
  (a15:Dz K "first_paper" uP)
  (a16:Dz K "is_book" zaU)
  (a17:Dz K "require_book" v9)
  (a18:Dz K "require_text_of" wF)
  (a19:Dz K "cut_by" zcz)
  (a20:Dz K "bits_for" j9)
  (a21:Dz K "word_for" zac)
  (a22:Dz K "words_of" q9)
  (a23:Dz K "led_by" zaO)
  (a24:Dz K "led" s_led)
  (a25:Mz K CC "left" "Stream.left" uI)
  (a26:Mz K CC "go_on" "Stream.go_on" uq)
  (a27:Mz K CC "tell" "Stream.tell" u9)
  (a28:Mz K CC "__init__" "Stream.__init__" wK)
  (a29:Mz K CC "text" "Stream.text" uJ)
  (a30:Mz K CC "signs" "Stream.signs" ur)
  (a31:Mz K CC "pieces" "Stream.pieces" vp)
  (a32:Mz K CC "steps" "Stream.steps" uw)
  (a33:Dz K "cut" s_cut)
  (a34:Dz K "whole_words" vg)
  (a35:Dz K "text_of_words" xZ)
  (a36:Dz K "from_word" jo)
  (a37:Dz K "back" s_back)
  (a38:Dz K "law" zen)
  (wFEWEST_LETTERS:PySem.W.nsIn K mainGlobals "FEWEST_LETTERS" = some (some vFEWEST_LETTERS)) (rFEWEST_LETTERS:RelV (.int (2)) vFEWEST_LETTERS)
  (wLETTERS:PySem.W.nsIn K mainGlobals "LETTERS" = some (some vLETTERS)) (rLETTERS:RelV (.str (T [97,98,99,100])) vLETTERS)
  (wMOST_PIECES:PySem.W.nsIn K mainGlobals "MOST_PIECES" = some (some vMOST_PIECES)) (rMOST_PIECES:RelV (.int (32)) vMOST_PIECES)
  (zall:PySem.W.nsIn K mainGlobals "all" = some none)
  (zany:PySem.W.nsIn K mainGlobals "any" = some none)
  (zbool:PySem.W.nsIn K mainGlobals "bool" = some none)
  (zdict:PySem.W.nsIn K mainGlobals "dict" = some none)
  (zint:PySem.W.nsIn K mainGlobals "int" = some none)
  (zisinstance:PySem.W.nsIn K mainGlobals "isinstance" = some none)
  (zlen:PySem.W.nsIn K mainGlobals "len" = some none)
  (zmax:PySem.W.nsIn K mainGlobals "max" = some none)
  (zrange:PySem.W.nsIn K mainGlobals "range" = some none)
  (zsorted:PySem.W.nsIn K mainGlobals "sorted" = some none)
  (zstr:PySem.W.nsIn K mainGlobals "str" = some none)
  (ztuple:PySem.W.nsIn K mainGlobals "tuple" = some none)
  (zzip:PySem.W.nsIn K mainGlobals "zip" = some none)
  (y_NoBook:Oz K "NoBook")
  (y_NoLetters:Oz K "NoLetters")
  (y_NoWord:Oz K "NoWord") :
  ∃fd:FuncData,(∀(s:Shared) (v:Value),BindsTo s fd ⟨[v],[]⟩ [("_law_script", v)])∧∀base:Heap,K.In base→base.Ns mainGlobals mg→FnOk l.prog w K mg base CX0 9 fa fd ["_law_script"] (zdu K):=by
 obtain⟨aL,lL,cL,kL⟩:=a38
 have e:=hfa.symm.trans (PySem.W.mg_of X G aL)
 cases e
 have FL:=zc9 (st:=zen) lL cL kL
 have bL:=FL.binds (ps:=["_law_script"]) (fun _ _ _ _ _ _=>bd1 fun _=>rfl)
 obtain⟨D0⟩:=a0.dn X G ["_law_script", "_law_k"] (fun _ _ _ _ _ _=>bd2 fun _ _=>rfl)
 obtain⟨D1⟩:=a1.dn X G ["_law_script", "_law_k", "_law_many"] (fun _ _ _ _ _ _=>bd3 fun _ _ _=>rfl)
 obtain⟨D2⟩:=a2.dn X G ["_law_script", "_law_at", "_law_many", "_law_turns"] (fun _ _ _ _ _ _=>bd4 fun _ _ _ _=>rfl)
 obtain⟨D3⟩:=a3.dn X G ["_law_script", "_law_at", "_law_many", "_law_long"] (fun _ _ _ _ _ _=>bd4 fun _ _ _ _=>rfl)
 obtain⟨D4⟩:=a4.dn X G ["texts"] (fun _ _ _ _ _ _=>bd1 fun _=>rfl)
 obtain⟨D5⟩:=a5.dn X G ["thing"] (fun _ _ _ _ _ _=>bd1 fun _=>rfl)
 obtain⟨D6⟩:=a6.dn X G ["thing", "least", "most"] (fun _ _ _ _ _ _=>bd3 fun _ _ _=>rfl)
 obtain⟨D7⟩:=a7.dn X G ["thing"] (fun _ _ _ _ _ _=>bd1 fun _=>rfl)
 obtain⟨D8⟩:=a8.dn X G ["many", "thing"] (fun _ _ _ _ _ _=>bd2 fun _ _=>rfl)
 obtain⟨D9⟩:=a9.dn X G ["many", "thing"] (fun _ _ _ _ _ _=>bd2 fun _ _=>rfl)
 obtain⟨D10⟩:=a10.dn X G ["pieces"] (fun _ _ _ _ _ _=>bd1 fun _=>rfl)
 obtain⟨D11⟩:=a11.dn X G ["many", "texts"] (fun _ _ _ _ _ _=>bd2 fun _ _=>rfl)
 obtain⟨D12⟩:=a12.dn X G ["pieces", "text"] (fun _ _ _ _ _ _=>bd2 fun _ _=>rfl)
 obtain⟨D13⟩:=a13.dn X G ["pieces", "text"] (fun _ _ _ _ _ _=>bd2 fun _ _=>rfl)
 obtain⟨D14⟩:=a14.dn X G ["many", "pieces"] (fun _ _ _ _ _ _=>bd2 fun _ _=>rfl)
 obtain⟨D15⟩:=a15.dn X G ["many", "pieces"] (fun _ _ _ _ _ _=>bd2 fun _ _=>rfl)
 obtain⟨D16⟩:=a16.dn X G ["many", "thing"] (fun _ _ _ _ _ _=>bd2 fun _ _=>rfl)
 obtain⟨D17⟩:=a17.dn X G ["many", "thing"] (fun _ _ _ _ _ _=>bd2 fun _ _=>rfl)
 obtain⟨D18⟩:=a18.dn X G ["many", "thing"] (fun _ _ _ _ _ _=>bd2 fun _ _=>rfl)
 obtain⟨D19⟩:=a19.dn X G ["book", "text"] (fun _ _ _ _ _ _=>bd2 fun _ _=>rfl)
 obtain⟨D20⟩:=a20.dn X G ["size"] (fun _ _ _ _ _ _=>bd1 fun _=>rfl)
 obtain⟨D21⟩:=a21.dn X G ["number", "bits"] (fun _ _ _ _ _ _=>bd2 fun _ _=>rfl)
 obtain⟨D22⟩:=a22.dn X G ["book"] (fun _ _ _ _ _ _=>bd1 fun _=>rfl)
 obtain⟨D23⟩:=a23.dn X G ["book", "text"] (fun _ _ _ _ _ _=>bd2 fun _ _=>rfl)
 obtain⟨D24⟩:=a24.dn X G ["many", "book", "text"] (fun _ _ _ _ _ _=>bd3 fun _ _ _=>rfl)
 obtain⟨D25⟩:=a25.md ["self"] (fun _ _ _ _ _ _=>bd1 fun _=>rfl)
 obtain⟨D26⟩:=a26.md ["self", "text"] (fun _ _ _ _ _ _=>bd2 fun _ _=>rfl)
 obtain⟨D27⟩:=a27.md ["self", "text"] (fun _ _ _ _ _ _=>bd2 fun _ _=>rfl)
 obtain⟨D28⟩:=a28.md ["self", "many", "book"] (fun _ _ _ _ _ _=>bd3 fun _ _ _=>rfl)
 obtain⟨D29⟩:=a29.md ["self"] (fun _ _ _ _ _ _=>bd1 fun _=>rfl)
 obtain⟨D30⟩:=a30.md ["self"] (fun _ _ _ _ _ _=>bd1 fun _=>rfl)
 obtain⟨D31⟩:=a31.md ["self"] (fun _ _ _ _ _ _=>bd1 fun _=>rfl)
 obtain⟨D32⟩:=a32.md ["self"] (fun _ _ _ _ _ _=>bd1 fun _=>rfl)
 obtain⟨D33⟩:=a33.dn X G ["many", "book", "text"] (fun _ _ _ _ _ _=>bd3 fun _ _ _=>rfl)
 obtain⟨D34⟩:=a34.dn X G ["book", "signs"] (fun _ _ _ _ _ _=>bd2 fun _ _=>rfl)
 obtain⟨D35⟩:=a35.dn X G ["book", "words"] (fun _ _ _ _ _ _=>bd2 fun _ _=>rfl)
 obtain⟨D36⟩:=a36.dn X G ["many", "book", "signs", "number"] (fun _ _ _ _ _ _=>bd4 fun _ _ _ _=>rfl)
 obtain⟨D37⟩:=a37.dn X G ["many", "book", "signs"] (fun _ _ _ _ _ _=>bd3 fun _ _ _=>rfl)
 obtain⟨O_NoBook⟩:=y_NoBook.ow X G
 obtain⟨O_NoLetters⟩:=y_NoLetters.ow X G
 obtain⟨O_NoWord⟩:=y_NoWord.ow X G
 let t:Txt K mg:=⟨⟨CC,⟨pg,hd,po,sa⟩,PySem.W.mg_of X G aC,mkC,kC⟩,na_many,na_chosen,na_done,na_rests,na_undone,D0,D1,D2,D3,D4,D5,D6,D7,D8,D9,D10,D11,D12,D13,D14,D15,D16,D17,D18,D19,D20,D21,D22,D23,D24,D25,D26,D27,D28,D29,D30,D31,D32,D33,D34,D35,D36,D37,⟨_,_,FL,PySem.W.mg_of X G aL,bL⟩,vFEWEST_LETTERS,PySem.W.mg_of X G wFEWEST_LETTERS,rFEWEST_LETTERS,vLETTERS,PySem.W.mg_of X G wLETTERS,rLETTERS,vMOST_PIECES,PySem.W.mg_of X G wMOST_PIECES,rMOST_PIECES,PySem.W.mg_none_of X G zall,PySem.W.mg_none_of X G zany,PySem.W.mg_none_of X G zbool,PySem.W.mg_none_of X G zdict,PySem.W.mg_none_of X G zint,PySem.W.mg_none_of X G zisinstance,PySem.W.mg_none_of X G zlen,PySem.W.mg_none_of X G zmax,PySem.W.mg_none_of X G zrange,PySem.W.mg_none_of X G zsorted,PySem.W.mg_none_of X G zstr,PySem.W.mg_none_of X G ztuple,PySem.W.mg_none_of X G zzip,O_NoBook,O_NoLetters,O_NoWord⟩
 exact⟨_,fun s v=>.of_eq rfl,fun base _ _=>law_ok (ok_law t) law_true⟩
theorem walk {l:PySem.W.OpenLaw}{q:Program}{loose:List Str}{XP:(Str→Option Value)→Heap→Prop}{YP:World→Heap→Prop}{d:DefRec}{K:Params→PySem.W.Frag}(hn:l.most=some 63)(hdf:d.params.defaults=[])
  (hY:∀(w:World) (h:Heap),YP w h→(K w.params).In h)
  (F:∀(w:World) (mg:Str→Option Value) (fa:Addr) (h:Heap),(K w.params).In h→h.Ns mainGlobals mg→mg d.name=some (.ref fa) →
   ∃fd:FuncData,(∀(s:Shared) (u:Value),BindsTo s fd ⟨[u],[]⟩ [("_law_script", u)])∧∀base:Heap,(K w.params).In base→base.Ns mainGlobals mg→FnOk l.prog w (K w.params) mg base CX0 9 fa fd ["_law_script"] (zdu (K w.params))) :
  PySem.W.WalkO q loose XP YP l.row.toRowW d [] (fun f vs=>PySem.call f vs) :=
 L2.walk_of (n:=63) (k:=9) (x := "_law_script") (CX:=fun _=>CX0) (sp:=fun w=>zdu (K w.params)) hn (by decide) hdf ⟨rfl,by decide,by decide⟩ hY F (fun _ _ a ns hl _ hS=>⟨a,ns,rfl,hS,hl,fun _=>rfl⟩) fun _ _ _ _ _ z=>z
end K64
theorem PySem.W.Fast.tw27584928530938391 : True := trivial
theorem PySem.W.Fast.tw4432431700874317291 : True := trivial
theorem PySem.W.Fast.tw2854496773990384703 : True := trivial
theorem PySem.W.Fast.tw3688279842477330599 : True := trivial
theorem PySem.W.Fast.tw15401995233084262845 : True := trivial
theorem PySem.W.Fast.tw7807036379478843750 : True := trivial
theorem PySem.W.Fast.tw8508158326337217001 : True := trivial
theorem PySem.W.Fast.tw6793592385794044448 : True := trivial
theorem PySem.W.Fast.tw16012824311910873450 : True := trivial
theorem PySem.W.Fast.tw9018354232258959855 : True := trivial
theorem PySem.W.Fast.tw8622309606556092715 : True := trivial
theorem PySem.W.Fast.tw16202813267600135726 : True := trivial
theorem PySem.W.Fast.tw9041563603590933656 : True := trivial
theorem PySem.W.Fast.tw10389612420409507185 : True := trivial
theorem PySem.W.Fast.tw1255175621098517652 : True := trivial
open PySem PySem.W PyProof.Rows
set_option maxRecDepth 100000 in
set_option maxHeartbeats 0 in
theorem PySem.Challenge.cw_piecebooks_k64_whole_streams_holds : PySem.Challenge.rw_piecebooks_k64_whole_streams.Holds := by
 w_on;o_law;k_head;(case hw=>w_witness2)
 k_fill
 refine K64.walk (l:=PySem.Challenge.rw_piecebooks_k64_whole_streams) rfl rfl (fun w h Y=>PySem.W.kIn_of Y) ?F
 case F =>
  intro w mg fa h KX G hmg
  refine' K64.all_mk KX G hmg ?aC ?pg ?hd ?po ?sa ?mkC ?kC ?na_many ?na_chosen ?na_done ?na_rests ?na_undone ?a0 ?a1 ?a2 ?a3 ?a4 ?a5 ?a6 ?a7 ?a8 ?a9 ?a10 ?a11 ?a12 ?a13 ?a14 ?a15 ?a16 ?a17 ?a18 ?a19 ?a20 ?a21 ?a22 ?a23 ?a24 ?a25 ?a26 ?a27 ?a28 ?a29 ?a30 ?a31 ?a32 ?a33 ?a34 ?a35 ?a36 ?a37 ?a38 ?wFEWEST_LETTERS ?rFEWEST_LETTERS ?wLETTERS ?rLETTERS ?wMOST_PIECES ?rMOST_PIECES ?zall ?zany ?zbool ?zdict ?zint ?zisinstance ?zlen ?zmax ?zrange ?zsorted ?zstr ?ztuple ?zzip ?y_NoBook ?y_NoLetters ?y_NoWord
  (case aC=>k_is)
  (case pg=>k_is)
  (case hd=>k_is)
  (case po=>k_is)
  (case sa=>k_is)
  (case mkC=>k_is)
  (case kC=>k_is)
  (case na_many=>k_is)
  (case na_chosen=>k_is)
  (case na_done=>k_is)
  (case na_rests=>k_is)
  (case na_undone=>k_is)
  (case a25|a26|a27|a28|a29|a30|a31|a32=>refine' L2.Mz.mk ?za ?zi ?zl ?zc ?zk;(case za=>k_is);(case zi=>k_is);(case zl=>k_is);(case zc=>k_is);(case zk=>k_is))
  (case a0|a1|a2|a3|a4|a5|a6|a7|a8|a9|a10|a11|a12|a13|a14|a15|a16|a17|a18|a19|a20|a21|a22|a23|a24|a33|a34|a35|a36|a37|a38=>refine' L2.Dz.mk ?za ?zl ?zc ?zk;(case za=>k_is);(case zl=>k_is);(case zc=>k_is);(case zk=>k_is))
  (case wFEWEST_LETTERS=>k_is)
  (case rFEWEST_LETTERS=>exact⟨_,rfl⟩)
  (case wLETTERS=>k_is)
  (case rLETTERS=>exact⟨_,rfl⟩)
  (case wMOST_PIECES=>k_is)
  (case rMOST_PIECES=>exact⟨_,rfl⟩)
  (case zall|zany|zbool|zdict|zint|zisinstance|zlen|zmax|zrange|zsorted|zstr|ztuple|zzip=>k_is)
  (case y_NoBook|y_NoLetters|y_NoWord=>refine' L2.Oz.mk ?zy ?zq;(case zy=>k_is);(case zq=>k_exc))
#print axioms PySem.Challenge.cw_piecebooks_k64_whole_streams_holds
