import PyProof.Rows.All
import Wide.All
import OpenK.AllK
import Wide.FinOn
import KE.KDictOf
import KE.KDictSum
import KE.KIntText
import KE.KItem
import KE.KRevIter
import OpenK.KOwn
import PyProof.AttrMissHeap
import PyProof.AutoSeq1
import PyProof.CodeObj
import PyProof.CollectWalk
import PyProof.ConsumeWalk
import PyProof.Conv_int_bool
import PyProof.DictIter
import PyProof.DictKinds
import PyProof.DictUpdate
import PyProof.Draws
import PyProof.EnumIter
import PyProof.EnumMake
import PyProof.EqAt
import PyProof.EqKinds
import PyProof.ExcArgsOwn
import PyProof.FactsAll.dict_1
import PyProof.FactsAll.set
import PyProof.FactsAll.set_2
import PyProof.ListMulRoad
import PyProof.ListNew
import PyProof.ListStr
import PyProof.NeData
import PyProof.P3In
import PyProof.Rows.DictSet
import PyProof.Rows.Range3
import PyProof.Rows.SetFrom
import PyProof.Rows.SortShell
import PyProof.Rows.SortStr
import PyProof.Rows.SortWalk
import PyProof.SeqI3
import PyProof.SetKind
import PyProof.StrLawsIn
import PyProof.StrOps2
import PyProof.StrWalks
import PyProof.TupleCall
import PyProof.TupleOps
import PyProof.Walks
import PyProof.WalksMore
import PyProof.WalksS
import PyProof.ZipIter
import Lean
import PySem.Challenge.RW_piecebooks_k43_whole_spoilt
set_option Elab.async false
set_option linter.all false
set_option maxRecDepth 100000
namespace L2
open PySem PySem.Spec PyProof.Rows
abbrev Key:=Sum Int Str
def keyIs:Key→Value→Bool
 | .inl k,v=>Value.isInt k v
 | .inr x,v=>Value.isStrOf x v
def keyH (w:World):Key→Int
 | .inl k=>hashInt k
 | .inr x=>hashStr w x
theorem yu:∀{k:Key}{v:Value},keyIs k v=true→(∃i t,k=Sum.inl i∧v=Value.int i t)∨(∃x t,k=Sum.inr x∧v=Value.str x t)
 | .inl i,v,h=>by
  obtain⟨t,e⟩:=Value.isInt_shape (k:=i) (v:=v) h
  exact .inl ⟨i,t,rfl,e⟩
 | .inr x,v,h=>by
  obtain⟨t,e⟩:=Value.isStrOf_shape (x:=x) (v:=v) h
  exact .inr ⟨x,t,rfl,e⟩
theorem keyIs_int (i:Int)(t:Tok):keyIs (.inl i) (.int i t)=true:=by simp[keyIs,Value.isInt]
theorem keyIs_str (x:Str)(t:Tok):keyIs (.inr x) (.str x t)=true:=by simp[keyIs,Value.isStrOf]
theorem key_ll (a b:Int):decide ((Sum.inl a:Key)=Sum.inl b)=(a == b):=by
 by_cases e:a=b
 ·subst e;simp
 ·have h:¬(Sum.inl a:Key)=Sum.inl b:=fun q=>e (Sum.inl.inj q)
  rw[decide_eq_false h]
  exact(beq_eq_false_iff_ne.mpr e).symm
theorem key_rr (a b:Str):decide ((Sum.inr a:Key)=Sum.inr b)=decide (a=b):=by
 by_cases e:a=b
 ·subst e;simp
 ·have h:¬(Sum.inr a:Key)=Sum.inr b:=fun q=>e (Sum.inr.inj q)
  rw[decide_eq_false h,decide_eq_false e]
theorem key_lr (a:Int)(b:Str):decide ((Sum.inl a:Key)=Sum.inr b)=false:=decide_eq_false (fun q=>nomatch q)
theorem key_rl (a:Str)(b:Int):decide ((Sum.inr a:Key)=Sum.inl b)=false:=decide_eq_false (fun q=>nomatch q)
def yg (prog:Program)(w:World):PySem.KeyKind prog w Key where
 is:=keyIs
 hash:=keyH w
 inj:=fun v a b ha hb=>by
  rcases yu ha with⟨i,t,rfl,rfl⟩|⟨x,t,rfl,rfl⟩
  ·rcases yu hb with⟨j,u,rfl,e⟩|⟨y,u,rfl,e⟩
   ·injection e with e1 _;rw[e1]
   ·exact nomatch e
  ·rcases yu hb with⟨j,u,rfl,e⟩|⟨y,u,rfl,e⟩
   ·exact nomatch e
   ·injection e with e1 _;rw[e1]
 byValue:=fun k v h=>by
  rcases yu h with⟨i,t,rfl,rfl⟩|⟨x,t,rfl,rfl⟩ <;>rfl
 pyHash:=fun hv h=>by
  rcases yu hv with⟨i,t,rfl,rfl⟩|⟨x,t,rfl,rfl⟩
  ·exact wpAny_pyHash_int h
  ·exact wpAny_pyHash_str h
 eqBool:=fun hu hv h=>by
  rcases yu hu with⟨i,t,rfl,rfl⟩|⟨x,t,rfl,rfl⟩
  ·rcases yu hv with⟨j,u,rfl,rfl⟩|⟨y,u,rfl,rfl⟩
   ·rw[key_ll] at h;exact wpAny_eqBool_int h
   ·rw[key_lr] at h;exact SeqAt.EqAt.int_str i t y u _ _ _ _ h
  ·rcases yu hv with⟨j,u,rfl,rfl⟩|⟨y,u,rfl,rfl⟩
   ·rw[key_rl] at h;exact SeqAt.EqAt.str_int x t j u _ _ _ _ h
   ·rw[key_rr] at h;exact wpAny_eqBool_str h
 «strs»:=fun k x t v h=>by
  rcases yu h with⟨i,u,rfl,e⟩|⟨y,u,rfl,e⟩
  ·exact nomatch e
  ·injection e with e1 _
   subst e1
   cases v <;>rfl
theorem mixKind_int (prog:Program)(w:World)(i:Int)(t:Tok):(yg prog w).is (.inl i) (.int i t)=true:=keyIs_int i t
theorem mixKind_str (prog:Program)(w:World)(x:Str)(t:Tok):(yg prog w).is (.inr x) (.str x t)=true:=keyIs_str x t
end L2
namespace L2
open PySem PySem.Spec PyProof.Rows
inductive V where
 | non|bl (b:Bool)|int (i:Int)|str (x:Str)|byt (b:Array UInt8)|flt (b:UInt64)|ref (a:Addr)|ty (n:String)
 deriving DecidableEq
def RelV:V→Value→Prop
 | .non,u=>u=Value.none
 | .bl b,u=>u=Value.bool b
 | .int i,u=>∃t,u=Value.int i t
 | .str x,u=>∃t,u=Value.str x t
 | .byt b,u=>∃t,u=Value.bytes b t
 | .flt b,u=>∃t,u=Value.float b t
 | .ref a,u=>u=Value.ref a
 | .ty n,u=>u=Value.type n
abbrev Vals:List V→List Value→Prop:=Paired RelV
theorem Vals.length {xs:List V}{us:List Value}(r:Vals xs us):xs.length=us.length:=Paired.length r
theorem Vals.get:∀{xs:List V}{us:List Value}{i:Nat}{x:V},Vals xs us→xs[i]? = some x→∃u,us[i]? = some u∧RelV x u
 | _,_,_,_,.nil,e=>by simp at e
 | _,_,0,_,.cons r _,e=>by simp at e;subst e;exact⟨_,rfl,r⟩
 | _,_,i+1,x,.cons _ t,e=>by
  obtain⟨u,h1,h2⟩:=Vals.get (i:=i) (x:=x) t (by simpa using e)
  exact⟨u,by simpa using h1,h2⟩
theorem Vals.set {x:V}{u:Value}(r:RelV x u):∀{xs:List V}{us:List Value} (i:Nat),Vals xs us→Vals (xs.set i x) (us.set i u)
 | _,_,_,.nil=>.nil
 | _,_,0,.cons _ t=>.cons r t
 | _,_,i+1,.cons q t=>.cons q (Vals.set r i t)
theorem Vals.append:∀{xs ys:List V}{us ws:List Value},Vals xs us→Vals ys ws→Vals (xs++ys) (us++ws):=by
 intro xs ys us ws h k
 induction h with
 | nil=>exact k
 | cons r t ih=>exact .cons r ih
theorem Vals.take:∀{xs:List V}{us:List Value} (n:Nat),Vals xs us→Vals (xs.take n) (us.take n)
 | _,_,0,_=>.nil
 | _,_,_+1,.nil=>.nil
 | _,_,n+1,.cons r t=>.cons r (Vals.take n t)
theorem Vals.drop:∀{xs:List V}{us:List Value} (n:Nat),Vals xs us→Vals (xs.drop n) (us.drop n)
 | _,_,0,r=>r
 | _,_,_+1,.nil=>.nil
 | _,_,n+1,.cons _ t=>Vals.drop n t
def RelO:Option V→Option Value→Prop
 | some v,some u=>RelV v u
 | none,none=>True
 | _,_=>False
def KV {κ:Type}:List (κ×V)→List (κ×Value)→Prop:=Paired fun(p:κ×V) (q:κ×Value)=>p.1=q.1∧RelV p.2 q.2
def kV:Key→V
 | .inl i=>.int i
 | .inr x=>.str x
inductive HO where
 /-- a list -/
 | lst (xs:List V)
 /-- a tuple (never changes) -/
 | tup (xs:List V)
 /-- a dict whose keys are ints and texts; one whose keys are tuples of ints and texts (the empty one is both) -/
 | dK (kvs:List (Key×V))|dT (kvs:List (List Key×V))|dR (kvs:List (List Key×Addr))
 /-- a set of ints: its members, its size -/
 | set (S:Int→Bool) (n:Nat)
 /-- an instance of the class at C, its dict at dx, its attributes -/
 | ins (C dx:Addr) (fs:List (Str×V))
 /-- the dict of the instance at x -/
 | own (x:Addr)
 /-- the dict of an exception -/
 | xd (fs:List (Str×V))
 /-- a bound method, f of x -/
 | met (f x:Addr)
 /-- a range object lo, lo + 1, .. below hi -/
 | rng (lo hi:Int)
 /-- a thing that is known to the object (the script; a dict while a loop walks it): read, never written while it is so -/
 | frz (o:Obj) (u:HO)
 /-- a code object's table -/
 | tbl (ps:Array Value)
 /-- any other thing, by what is true of its one object (a def of one's own: SetO a S n := HO.ext fun h => ..) -/
 | ext (φ:Heap→Prop)
abbrev Hp:=Addr→Option HO
def upd (H:Hp)(a:Addr)(o:HO):Hp:=fun b=>if b=a then some o else H b
theorem zX {H:Hp}{a:Addr}{o:HO}:upd H a o a=some o:=by unfold upd;rw[if_pos rfl]
theorem zP {H:Hp}{a b:Addr}{o:HO}(h:b≠a):upd H a o b=H b:=by unfold upd;rw[if_neg h]
theorem yt {H:Hp}{a b:Addr}{o:HO}(h:H a=some o)(h':H b=none):a≠b:=by
 intro e;subst e;rw[h] at h';cases h'
def TupD (h:Heap)(a:Addr)(items:Array Value):Prop:=∃o,h.get? a=some o∧o.cls=.type "tuple" ∧ (∃n,o.data=.seq items n)∧o.dict=none
theorem TupD.tup {h:Heap}{a:Addr}{items:Array Value}(x:TupD h a items):IsTup h a items:=let ⟨o,e,c,d,_⟩:=x;⟨o,e,c,d⟩
theorem TupD.new (h:Heap)(items:Array Value):TupD (h.push {cls:=.type "tuple", data:=.seq items}) h.objs.size items:=⟨_,Heap.get?_push_size _ rfl,rfl,⟨_,rfl⟩,rfl⟩
section
variable (P:Program)(w:World)
def ObjOk (H:Hp)(h:Heap)(a:Addr):HO→Prop
 | .lst xs=>xs.length≤sizeLine∧∃(its:List Value) (n:Nat),Vals xs its∧h.get? a=some {cls:=.type "list", data:=.seq its.toArray n}
 | .tup xs=>xs.length≤sizeLine∧∃its:List Value,Vals xs its∧TupD h a its.toArray
 | .dK kvs=>kvs.length≤sizeLine∧(a == sysModules)=false∧∃vs,KV kvs vs∧h.DictOf (yg P w) a vs
 | .dT kvs=>kvs.length≤sizeLine∧(a == sysModules)=false∧∃xs:List (List Key×Addr×Value),
   Paired (fun(p:List Key×V) (q:List Key×Addr×Value)=>p.1=q.1∧H q.2.1=some (.tup (p.1.map kV))∧RelV p.2 q.2.2) kvs xs ∧
   ∃o es ep,h.get? a=some o∧o.ExactDict∧o.data=.dict es ep∧es.toList=xs.map (entryOfKey (tupleKind (yg P w)))∧(xs.map (·.1)).Nodup
 | .dR kvs=>kvs.length≤sizeLine∧(a == sysModules)=false∧∃o es ep,h.get? a=some o∧o.ExactDict∧o.data=.dict es ep∧es.toList=kvs.map (fun q=>entryOfKey (tupleKind (yg P w)) (q.1,q.2,Value.bool true))∧(kvs.map (·.1)).Nodup
 | .set S n=>h.SetOf (intKind P w) a S n
 | .ins C dx fs=>H dx=some (.own a)∧fs.length≤1000∧dx≠a∧h.get? a=some (PySem.W.instObj C dx) ∧
   ∃mA,h.Ns1 dx mA∧(∀f,RelO (fs.lookup f) (mA f))∧PySem.Within mA (fs.map (·.1))
 | .own _=>∃o,h.get? a=some o
 | .xd fs=>∃mA,h.Ns1 a mA∧∀f,RelO (fs.lookup f) (mA f)
 | .rng lo hi=>∃t u v,h.get? a=some {cls:=.type "range", data:=.fields #[.int lo t,.int hi u,.int 1 v]}
 | .frz o u=>h.get? a=some o∧ObjOk H h a u
 | .tbl ps=>h.get? a=some {cls:=.none,data:=.fields ps}
 | .met f x=>h.get? a=some (PySem.W.methodObj (.ref f) (.ref x))
 | .ext φ=>φ h∧(∃o,h.get? a=some o)∧∀h1 h2:Heap,φ h1→(∀o,h1.get? a=some o→h2.get? a=some o)→φ h2
def HOk (H:Hp)(h:Heap):Prop:=∀a o,H a=some o→ObjOk P w H h a o
end
section
variable {P:Program}{w:World}{H H':Hp}{h h':Heap}{a:Addr}{o:HO}
theorem ObjOk.lt (x:ObjOk P w H h a o):a<h.objs.size:=by
 cases o with
 | lst xs=>obtain⟨_,_,_,_,e⟩:=x;exact Heap.lt_size e
 | tup xs=>obtain⟨_,_,_,p⟩:=x;exact p.tup.lt
 | dK kvs=>obtain⟨_,_,_,_,o,_,_,e,_⟩:=x;exact Heap.lt_size e
 | dT kvs=>obtain⟨_,_,_,_,o,_,_,e,_⟩:=x;exact Heap.lt_size e
 | dR kvs=>obtain⟨_,_,o,_,_,e,_⟩:=x;exact Heap.lt_size e
 | set S n=>obtain⟨o,_,_,_,e,_⟩:=x;exact Heap.lt_size e
 | ins C dx fs=>obtain⟨_,_,_,e,_⟩:=x;exact Heap.lt_size e
 | own y=>obtain⟨_,e⟩:=x;exact Heap.lt_size e
 | xd fs=>obtain⟨_,⟨_,_,_,e,_⟩,_⟩:=x;exact Heap.lt_size e
 | rng lo hi=>obtain⟨_,_,_,e⟩:=x;exact Heap.lt_size e
 | frz ob u=>obtain⟨e,_⟩:=x;exact Heap.lt_size e
 | tbl ps=>exact Heap.lt_size (show h.get? a=some _ from x)
 | met f y=>exact Heap.lt_size (show h.get? a=some _ from x)
 | ext φ=>obtain⟨_,⟨_,e⟩,_⟩:=x;exact Heap.lt_size e
theorem Paired.mapP {α β:Type}{F G:α→β→Prop}:∀{l₁:List α}{l₂:List β},Paired F l₁ l₂→(∀a b,F a b→G a b)→Paired G l₁ l₂
 | _,_,.nil,_=>.nil
 | _,_,.cons r t,f=>.cons (f _ _ r) (Paired.mapP t f)
theorem ObjOk.stay (x:ObjOk P w H h a o)(k:∀b u,(b=a∨H b=some (.own a))→h.get? b=some u→h'.get? b=some u)
  (ho:∀b,H b=some (.own a)→H' b=some (.own a)) (ht:∀b xs,H b=some (.tup xs)→H' b=some (.tup xs)):ObjOk P w H' h' a o:=by
 induction o with
 | lst xs=>obtain⟨z,its,n,r,e⟩:=x;exact⟨z,its,n,r,k _ _ (.inl rfl) e⟩
 | tup xs=>obtain⟨z,its,r,ob,e,c⟩:=x;exact⟨z,its,r,ob,k _ _ (.inl rfl) e,c⟩
 | dK kvs=>obtain⟨z,y,vs,r,ob,es,ep,e,c⟩:=x;exact⟨z,y,vs,r,ob,es,ep,k _ _ (.inl rfl) e,c⟩
 | dT kvs =>
  obtain⟨z,y,xs,r,ob,es,ep,e,c⟩:=x
  exact⟨z,y,xs,Paired.mapP r fun p q z=>⟨z.1,ht _ _ z.2.1,z.2.2⟩,ob,es,ep,k _ _ (.inl rfl) e,c⟩
 | dR kvs=>obtain⟨z,y,ob,es,ep,e,c⟩:=x;exact⟨z,y,ob,es,ep,k _ _ (.inl rfl) e,c⟩
 | set S n=>obtain⟨ob,es,ep,t,e,c⟩:=x;exact⟨ob,es,ep,t,k _ _ (.inl rfl) e,c⟩
 | ins C dx fs =>
  obtain⟨d,z,ne,e,mA,⟨od,es,ep,e2,c⟩,r⟩:=x
  exact⟨ho _ d,z,ne,k _ _ (.inl rfl) e,mA,⟨od,es,ep,k _ _ (.inr d) e2,c⟩,r⟩
 | own y=>obtain⟨ob,e⟩:=x;exact⟨ob,k _ _ (.inl rfl) e⟩
 | xd fs=>obtain⟨mA,⟨od,es,ep,e,c⟩,r⟩:=x;exact⟨mA,⟨od,es,ep,k _ _ (.inl rfl) e,c⟩,r⟩
 | rng lo hi=>obtain⟨t,u,v,e⟩:=x;exact⟨t,u,v,k _ _ (.inl rfl) e⟩
 | frz ob u ih=>obtain⟨e,q⟩:=x;exact⟨k _ _ (.inl rfl) e,ih q⟩
 | tbl ps =>
  have e:h.get? a=some {cls:=.none,data:=.fields ps}:=x
  show h'.get? a=some {cls:=.none,data:=.fields ps}
  exact k a _ (.inl rfl) e
 | met f y =>
  have e:h.get? a=some (PySem.W.methodObj (.ref f) (.ref y)):=x
  show h'.get? a=some (PySem.W.methodObj (.ref f) (.ref y))
  exact k a _ (.inl rfl) e
 | ext φ=>obtain⟨p,⟨o,e⟩,st⟩:=x;exact⟨st _ _ p fun o q=>k _ _ (.inl rfl) q,⟨o,k _ _ (.inl rfl) e⟩,st⟩
theorem HOk.lt (x:HOk P w H h)(e:H a=some o):a<h.objs.size:=(x a o e).lt
theorem HOk.fresh (x:HOk P w H h)(e:h.objs.size≤a):H a=none:=by
 cases q:H a with
 | none=>rfl
 | some u=>exact absurd (Nat.lt_of_lt_of_le (x.lt q) e) (Nat.lt_irrefl _)
theorem HOk.kept (x:HOk P w H h)(k:∀b u,h.get? b=some u→h'.get? b=some u):HOk P w H h':=fun a o e =>
 (x a o e).stay (fun b u _ q=>k b u q) (fun _ q=>q) fun _ _ q=>q
theorem HOk.laid (x:HOk P w H h)(k:∀b u,h.get? b=some u→h'.get? b=some u)(hp:h.objs.size≤a)(new:ObjOk P w (upd H a o) h' a o):HOk P w (upd H a o) h':=fun b u e=>by
 have hn:=x.fresh hp
 by_cases hb:b=a
 ·subst hb;rw[zX] at e;cases e;exact new
 ·rw[zP hb] at e
  exact(x b u e).stay (fun c v _ q=>k c v q) (fun c q=>by rw[zP (yt q hn)];exact q) fun c xs q=>by rw[zP (yt q hn)];exact q
end
def Rd (H:Hp)(a:Addr)(u:HO):Prop:=H a=some u∨∃o,H a=some (.frz o u)
theorem Rd.ok {P:Program}{w:World}{H:Hp}{h:Heap}{a:Addr}{u:HO}(r:Rd H a u)(x:HOk P w H h):ObjOk P w H h a u:=by
 rcases r with r|⟨o,r⟩
 ·exact x a u r
 ·obtain⟨_,q⟩:=x a _ r
  exact q
def Mut:Option HO→Prop
 | some (.lst _)=>True
 | some (.dK _)=>True
 | some (.dT _)=>True
 | some (.dR _)=>True
 | some (.set _ _)=>True
 | some (.ins _ _ _)=>True
 | some (.ext _)=>True
 | _=>False
section
variable {P:Program}{w:World}{H:Hp}{h h':Heap}{x e:Addr}{o':HO}
theorem HOk.write (ok:HOk P w H h)(mu:Mut (H x))(he:e=x∨H e=some (.own x))(k:∀b u,b≠e→h.get? b=some u→h'.get? b=some u)(heo:∃u,h'.get? e=some u)
  (new:ObjOk P w (upd H x o') h' x o'):HOk P w (upd H x o') h':=fun b u q=>by
 have nown:∀c y,H c=some (.own y)→c≠x:=fun c y r z=>by subst z;rw[r] at mu;exact mu
 have ntup:∀c xs,H c=some (.tup xs)→c≠x:=fun c xs r z=>by subst z;rw[r] at mu;exact mu
 by_cases hb:b=x
 ·subst hb;rw[zX] at q;cases q;exact new
 ·rw [zP hb] at q
  by_cases hbe:b=e
  ·have q':H b=some (.own x):=by
    rcases he with z|z
    ·exact absurd (hbe.trans z) hb
    ·rw[hbe];exact z
   rw[q] at q';cases q'
   obtain⟨v,hv⟩:=heo
   exact⟨v,by rw[hbe];exact hv⟩
  ·refine (ok b u q).stay (fun c v hc r=>k c v ?_ r) (fun c r=>by rw[zP (nown c b r)];exact r) fun c xs r=>by rw[zP (ntup c xs r)];exact r
   rcases hc with rfl|hc
   ·exact hbe
   ·rintro rfl
    rcases he with z|z
    ·exact nown c b hc z
    ·rw[hc] at z;cases z;exact hb rfl
end
structure Un (fs ex:List Addr)(H H':Hp)(h h':Heap):Prop where
 keep:∀b o,h.get? b=some o→H b=none→b∉fs→b∉ex→h'.get? b=some o
 slot:∀b o,h.get? b=some o→H b=none→b∈fs→b∉ex→∃sl,h'.get? b=some {o with slots:=sl}
 free:∀b o,h.get? b=some o→H b=none→b∉ex→H' b=none
 there:∀b o,h.get? b=some o→b∉ex→∃o',h'.get? b=some o'
 tups:∀b xs,H b=some (.tup xs)→H' b=some (.tup xs)
 frzs:∀b o u,H b=some (.frz o u)→H' b=some (.frz o u)
 tbls:∀b ps,H b=some (.tbl ps)→∃more,H' b=some (.tbl (ps++more))
section
variable {fs fs' ex ex':List Addr}{H H1 H2:Hp}{h h1 h2 h':Heap}{a x e:Addr}{o:HO}
theorem Un.any (u:Un fs ex H H1 h h1){b:Addr}{ob:Obj}(q:h.get? b=some ob)(n:H b=none)(hx:b∉ex):∃sl,h1.get? b=some {ob with slots:=sl}:=by
 by_cases hb:b∈fs
 ·exact u.slot b ob q n hb hx
 ·exact⟨ob.slots,u.keep b ob q n hb hx⟩
theorem Un.trans (a:Un fs ex H H1 h h1)(b:Un fs ex H1 H2 h1 h2):Un fs ex H H2 h h2 where
 keep:=fun c ob q n hc hx=>b.keep c ob (a.keep c ob q n hc hx) (a.free c ob q n hx) hc hx
 slot:=fun c ob q n hc hx=>by
  obtain⟨sl,e1⟩:=a.slot c ob q n hc hx
  obtain⟨sl',e2⟩:=b.slot c _ e1 (a.free c ob q n hx) hc hx
  exact⟨sl',e2⟩
 free:=fun c ob q n hx=>by
  obtain⟨o',e1⟩:=a.there c ob q hx
  exact b.free c o' e1 (a.free c ob q n hx) hx
 there:=fun c ob q hx=>by
  obtain⟨o',e1⟩:=a.there c ob q hx
  exact b.there c o' e1 hx
 tups:=fun c xs q=>b.tups c xs (a.tups c xs q)
 frzs:=fun c ob xs q=>b.frzs c ob xs (a.frzs c ob xs q)
 tbls:=fun c ps q=>by
  obtain⟨m1,e1⟩:=a.tbls c ps q
  obtain⟨m2,e2⟩:=b.tbls c _ e1
  exact⟨m1++m2,by rw[e2,Array.append_assoc]⟩
theorem Un.kept (k:∀b u,h.get? b=some u→h'.get? b=some u):Un fs ex H H h h' :=
 ⟨fun b ob q _ _ _=>k b ob q,fun b ob q _ _ _=>⟨ob.slots,k b ob q⟩,fun _ _ _ n _=>n,fun b ob q _=>⟨ob,k b ob q⟩,fun _ _ q=>q,fun _ _ _ q=>q,fun _ ps q=>⟨#[],by rw[q];simp⟩⟩
theorem Un.refl:Un fs ex H H h h:=Un.kept fun _ _ q=>q
theorem Un.laid (k:∀b u,h.get? b=some u→h'.get? b=some u)(hp:h.objs.size≤a)(hn:H a=none):Un fs ex H (upd H a o) h h' where
 keep:=fun b u q _ _ _=>k b u q
 slot:=fun b u q _ _ _=>⟨u.slots,k b u q⟩
 free:=fun b u q n _=>by rw[zP (Nat.ne_of_lt (Nat.lt_of_lt_of_le (Heap.lt_size q) hp))];exact n
 there:=fun b u q _=>⟨u,k b u q⟩
 tups:=fun b xs q=>by rw[zP (yt q hn)];exact q
 frzs:=fun b u xs q=>by rw[zP (yt q hn)];exact q
 tbls:=fun b ps q=>⟨#[],by rw[zP (yt q hn),q];simp⟩
theorem Un.write (mu:Mut (H x))(he:e=x∨H e=some (.own x))(k:∀b u,b≠e→h.get? b=some u→h'.get? b=some u)(heo:∃u,h'.get? e=some u):Un fs ex H (upd H x o) h h':=by
 have hx:∀b,H b=none→b≠x:=fun b n z=>by subst z;rw[n] at mu;exact mu
 have hb:∀b,H b=none→b≠e:=fun b n z=>by
  subst z
  rcases he with r|r
  ·exact hx b n r
  ·rw[n] at r;cases r
 have hm:∀b u,H b=some u→¬Mut (some u)→b≠x:=fun b u q nm z=>by subst z;rw[q] at mu;exact nm mu
 refine ⟨fun b u q n _ _=>k b u (hb b n) q,fun b u q n _ _=>⟨u.slots,k b u (hb b n) q⟩,fun b u q n _=>by rw[zP (hx b n)];exact n,fun b u q _=>?_,
  fun b xs q=>by rw[zP (hm b _ q fun z=>z)];exact q,fun b u xs q=>by rw[zP (hm b _ q fun z=>z)];exact q,fun b ps q=>⟨#[],by rw[zP (hm b _ q fun z=>z),q];simp⟩⟩
 by_cases hbe:b=e
 ·subst hbe;exact heo
 ·exact⟨u,k b u hbe q⟩
theorem Un.mono (u:Un fs ex H H1 h h1)(hs:∀b∈fs,b∈fs')(hx:∀b∈ex,b∈ex'):Un fs' ex' H H1 h h1 :=
 ⟨fun b ob q n hb he=>u.keep b ob q n (fun z=>hb (hs b z)) fun z=>he (hx b z),fun _ _ q n _ he=>u.any q n fun z=>he (hx _ z),fun b ob q n he=>u.free b ob q n fun z=>he (hx b z),fun b ob q he=>u.there b ob q fun z=>he (hx b z),u.tups,u.frzs,u.tbls⟩
end
def trk (h:Heap)(H:Hp):List Addr:=(List.range h.objs.size).filter fun a=>(H a).isSome
def hidT (h:Heap)(H:Hp):Heap:=PySem.W.hideAll h (trk h H)
theorem hidT_size (h:Heap)(H:Hp):(hidT h H).objs.size=h.objs.size:=PySem.W.hideAll_size _ _
theorem hidT_get {h:Heap}{H:Hp}{b:Addr}{o:Obj}(e:h.get? b=some o)(n:H b=none):(hidT h H).get? b=some o :=
 PySem.W.hideAll_get _ e fun hm=>by
  have q:(H b).isSome=true:=(List.mem_filter.mp hm).2
  rw[n] at q;simp at q
theorem of_hidT {h:Heap}{H:Hp}{b:Addr}{o:Obj}(e:(hidT h H).get? b=some o):h.get? b=some o∧H b=none:=by
 have e':h.get? b=some o:=PySem.W.of_hideAll (trk h H) e
 refine⟨e',?_⟩
 cases q:H b with
 | none=>rfl
 | some x =>
  have hm:b∈trk h H:=List.mem_filter.mpr ⟨List.mem_range.mpr (Heap.lt_size e'),by simp[q]⟩
  have z:(hidT h H).get? b=none:=PySem.W.hideAll_none (trk h H) hm
  rw[z] at e;cases e
def allNews (g h:Heap)(L:Addr):List (Addr×Obj):=(List.range h.objs.size).filterMap fun a=>if a=L∨(g.get? a).isSome=true then none else(h.get? a).map fun o=>(a,o)
def rest (g h:Heap)(L d:Addr):List (Addr×Obj):=(allNews g h L).filter fun p=>decide (p.1≠d)
end L2
namespace L2
open PySem PySem.Spec PyProof.Rows
structure Mod (K:PySem.W.Frag)(mg:Str→Option Value)(base:Heap):Prop where
 kin:K.In base
 glob:base.Ns mainGlobals mg
 blt:∃mb,base.Ns builtinsNs mb∧∀x:Str,x ≠ "__name__" → mb x=bootBuiltins x
 nolimit:base.NoLimit
structure Cx where
 prog:Program
 w:World
 K:PySem.W.Frag
 mg:Str→Option Value
 base:Heap
 A:Around
 N:List Str
 s₀:Shared
 H₀:Hp
 env:Env
 outer:List Env
 stack:List Env
 ex:List Addr
 fn:Str→Bool
 calm:Bool
 pn:List (Addr×Obj)
 xe:Value→Shared→Prop
def frs (l:List Env):List Addr:=l.filterMap (·.frame)
abbrev Cx.fs (X:Cx):List Addr:=frs X.outer
def Vis (sc:Scope)(x:Str):Prop:=sc.names.lookup x=some .local∨sc.names.lookup x=some .cell∨sc.names.lookup x=some .free
def Loc (sc:Scope)(x:Str):Prop:=sc.names.lookup x=some .local∨sc.names.lookup x=some .cell
def Look (env:Env)(h:Heap)(m:Str→Option Value)(x:Str)(u:Value):Prop :=
 (env.kindOf x=some .local∧m x=some u)∨((env.kindOf x=some .cell∨env.kindOf x=some .free)∧∃c,env.cells.lookup x=some c∧h.IsCell c (some u))
structure Cx.Ok (X:Cx):Prop where
 mod:Mod X.K X.mg X.base
 kind:X.env.scope.kind=.function
 glob:X.env.globals=mainGlobals
 blt:X.env.builtins=builtinsNs
 above:X.s₀.heap.objs.size≤X.env.locals
 inj:∀x y c,X.env.cells.lookup x=some c→X.env.cells.lookup y=some c→x=y
 has:∀x,(X.env.kindOf x=some .cell∨X.env.kindOf x=some .free)→∃c,X.env.cells.lookup x=some c
 cab:∀x c,X.fn x=true→X.env.cells.lookup x=some c→X.s₀.heap.objs.size≤c
 hd:X.calm=true→X.A.handled=none
 frames:X.A.frames=some X.stack
 stk:X.stack=X.outer∨(X.stack=X.env::X.outer∧X.env.frame=some X.env.locals)
 exf:∀b∈X.ex,b≠X.env.locals∧∀x c,X.env.cells.lookup x=some c→c≠b
 bs:∀b o,X.base.get? b=some o→X.s₀.heap.get? b=some o∧X.H₀ b=none
 bsz:X.base.objs.size≤X.s₀.heap.objs.size
 noex:∀b o,X.base.get? b=some o→b∉X.ex
 exfs:∀b∈X.ex,b∉X.fs
 funs:X.s₀.heap.FunFrames X.base X.outer
 frf:∀b∈X.fs,X.H₀ b=none
structure Inv (X:Cx)(pins:List (Addr×Obj))(σ:List (Option V))(H:Hp)(s:Shared):Prop where
 ok:X.Ok
 os:s.os=X.s₀.os
 bare:AllBare s.gens
 base:Un X.fs X.ex X.H₀ H X.s₀.heap s.heap
 loc:∃m,s.heap.Ns X.env.locals m∧∀(i:Nat) (x:Str) (v:V),X.N[i]? = some x→σ[i]? = some (some v)→Vis X.env.scope x→∃u,RelV v u∧Look X.env s.heap m x u
 cell:∀x c,X.env.cells.lookup x=some c→∃v,s.heap.IsCell c v
 free:H X.env.locals=none
 freeC:∀x c,X.env.cells.lookup x=some c→H c=none
 pin:∀p∈X.pn++pins,s.heap.get? p.1=some p.2∧H p.1=none∧p.1≠X.env.locals∧p.1∉X.fs∧∀v,p.2.data≠.cell v
 hok:HOk X.prog X.w H s.heap
 len:σ.length=X.N.length
section
variable {X:Cx}{pins:List (Addr×Obj)}{σ:List (Option V)}{H H':Hp}{s:Shared}{h':Heap}
theorem Cx.Ok.nofr (ok:X.Ok){b:Addr}{o:Obj}(e:X.base.get? b=some o):b∉X.fs:=fun hb=>by
 have:=(ok.funs.mem hb).1
 rw[e] at this;cases this
theorem Inv.bs (I:Inv X pins σ H s):∀b o,X.base.get? b=some o→s.heap.get? b=some o∧H b=none:=fun b o e =>
 ⟨I.base.keep b o (I.ok.bs b o e).1 (I.ok.bs b o e).2 (I.ok.nofr e) (I.ok.noex b o e),I.base.free b o (I.ok.bs b o e).1 (I.ok.bs b o e).2 (I.ok.noex b o e)⟩
theorem Inv.bk (I:Inv X pins σ H s):∀b o,X.base.get? b=some o→s.heap.get? b=some o:=fun b o e=>(I.bs b o e).1
theorem Inv.mod (I:Inv X pins σ H s):Mod X.K X.mg X.base:=I.ok.mod
theorem Inv.kIn (I:Inv X pins σ H s):X.K.In s.heap:=I.ok.mod.kin.keeps I.bk
theorem Inv.lt (I:Inv X pins σ H s):X.env.locals<s.heap.objs.size:=let ⟨_,hn,_⟩:=I.loc;hn.lt
theorem Inv.sz (I:Inv X pins σ H s):X.s₀.heap.objs.size≤s.heap.objs.size:=Nat.le_trans I.ok.above (Nat.le_of_lt I.lt)
theorem Inv.nofs (I:Inv X pins σ H s){a:Addr}(h:s.heap.objs.size≤a):a∉X.fs:=fun hb=>by
 obtain⟨_,o,ho,_⟩:=I.ok.funs.mem hb
 exact absurd (Nat.lt_of_lt_of_le (Heap.lt_size ho) (Nat.le_trans I.sz h)) (Nat.lt_irrefl _)
theorem Inv.cne (I:Inv X pins σ H s):∀x c,X.env.cells.lookup x=some c→c≠X.env.locals:=fun x c e z=>by
 obtain⟨v,o,ho,hd⟩:=I.cell x c e
 obtain⟨m,⟨o',es,ep,ho',hd',_⟩,_⟩:=I.loc
 rw[z,ho'] at ho;cases ho;rw[hd'] at hd;cases hd
theorem Inv.funs (I:Inv X pins σ H s):s.heap.FunFrames X.base X.outer:=by
 have all:∀(l:List Env),(∀b∈frs l,b∈X.fs)→X.s₀.heap.FunFrames X.base l→s.heap.FunFrames X.base l:=by
  intro l
  induction l with
  | nil=>intro _ _;trivial
  | cons env r ih =>
   intro hs hl
   obtain⟨hk,⟨L,o,hf,hn,ho,hd⟩,hr⟩:=hl
   have hL:L∈X.fs:=hs L (by unfold frs;rw[List.filterMap_cons,hf];exact List.mem_cons_self)
   obtain⟨sl,e⟩:=I.base.slot L o ho (I.ok.frf L hL) hL fun z=>I.ok.exfs L z hL
   exact⟨hk,⟨L,_,hf,hn,e,hd⟩,ih (fun b hb=>hs b (by unfold frs;rw[List.filterMap_cons,hf];exact List.mem_cons_of_mem _ hb)) hr⟩
 exact all X.outer (fun _ hb=>hb) I.ok.funs
theorem Inv.stack (I:Inv X pins σ H s):s.heap.FunFrames X.base X.stack:=by
 rcases I.ok.stk with e|⟨e,hf⟩
 ·rw[e];exact I.funs
 ·rw[e]
  obtain⟨m,hn,_⟩:=I.loc
  refine .cons (by rw[I.ok.kind];decide) hf hn ?_ I.funs
  exact Heap.get?_none_of_le (Nat.le_trans I.ok.bsz I.ok.above)
theorem Inv.stkSub (I:Inv X pins σ H s):∀b∈frs X.stack,b∈X.env.locals::X.fs:=fun b hb=>by
 rcases I.ok.stk with e|⟨e,hf⟩
 ·rw[e] at hb;exact List.mem_cons_of_mem _ hb
 ·rw[e] at hb
  unfold frs at hb
  rw[List.filterMap_cons,hf] at hb
  exact hb
theorem Inv.stkFree (I:Inv X pins σ H s):∀b∈frs X.stack,H b=none:=fun b hb=>by
 rcases List.mem_cons.mp (I.stkSub b hb) with e|hb
 ·rw[e];exact I.free
 ·obtain⟨_,o,ho,_⟩:=I.ok.funs.mem hb
  exact I.base.free b o ho (I.ok.frf b hb) fun z=>I.ok.exfs b z hb
theorem Inv.step {g':Array GenState}{t':Nat}{d':Drawn}{ch:List Addr}(I:Inv X pins σ H s)
  (hch:∀b∈ch,(b∈X.ex∨X.s₀.heap.objs.size≤b)∧b≠X.env.locals∧(∀x c,X.env.cells.lookup x=some c→c≠b)∧∀p∈X.pn++pins,p.1≠b)
  (keep:∀b o,b≠X.env.locals→b∉X.fs→b∉ch→s.heap.get? b=some o→H b=none→h'.get? b=some o)
  (slot:∀b o,b≠X.env.locals→b∈X.fs→b∉ch→s.heap.get? b=some o→H b=none→∃sl,h'.get? b=some {o with slots:=sl}) (free:∀b o,b∉ch→s.heap.get? b=some o→H b=none→H' b=none)
  (there:∀b o,b∉ch→s.heap.get? b=some o→∃o',h'.get? b=some o')
  (tups:∀b xs,H b=some (.tup xs)→H' b=some (.tup xs)) (frzs:∀b o u,H b=some (.frz o u)→H' b=some (.frz o u)) (tbls:∀b ps,H b=some (.tbl ps)→∃more,H' b=some (.tbl (ps++more)))
  (ns:∀m,s.heap.Ns X.env.locals m→h'.Ns X.env.locals m) (hok:HOk X.prog X.w H' h') (hg:AllBare g') :
  Inv X pins σ H' {s with heap:=h',gens:=g',drawn:=d',toks:=t'}:=by
 have neL:∀b o,X.s₀.heap.get? b=some o→b≠X.env.locals:=fun b o e=>Nat.ne_of_lt (Nat.lt_of_lt_of_le (Heap.lt_size e) I.ok.above)
 have neC:∀b o,X.s₀.heap.get? b=some o→b∉X.ex→b∉ch:=fun b o e hx hb=>by
  rcases(hch b hb).1 with z|z
  ·exact hx z
  ·exact absurd (Nat.lt_of_lt_of_le (Heap.lt_size e) z) (Nat.lt_irrefl _)
 have cellK:∀x c,X.env.cells.lookup x=some c→∀v,s.heap.IsCell c v→h'.IsCell c v:=fun x c e v ⟨o,ho,hd⟩=>by
  have nch:c∉ch:=fun z=>(hch c z).2.2.1 x c e rfl
  by_cases hc:c∈X.fs
  ·obtain⟨sl,q⟩:=slot c o (I.cne x c e) hc nch ho (I.freeC x c e)
   exact⟨_,q,hd⟩
  ·exact⟨o,keep c o (I.cne x c e) hc nch ho (I.freeC x c e),hd⟩
 refine⟨I.ok,I.os,hg,⟨fun b o e n hb hx=>?_,fun b o e n hb hx=>?_,fun b o e n hx=>?_,fun b o e hx=>?_,fun b xs e=>tups b xs (I.base.tups b xs e),fun b o xs e=>frzs b o xs (I.base.frzs b o xs e),fun b ps e=>?_⟩,?_,fun x c e=>?_,?_,fun x c e=>?_,fun p hp=>?_,hok,I.len⟩
 ·exact keep b o (neL b o e) hb (neC b o e hx) (I.base.keep b o e n hb hx) (I.base.free b o e n hx)
 ·obtain⟨sl,e1⟩:=I.base.slot b o e n hb hx
  obtain⟨sl',e2⟩:=slot b _ (neL b o e) hb (neC b o e hx) e1 (I.base.free b o e n hx)
  exact⟨sl',e2⟩
 ·obtain⟨o',e1⟩:=I.base.there b o e hx
  exact free b o' (neC b o e hx) e1 (I.base.free b o e n hx)
 ·obtain⟨o',e1⟩:=I.base.there b o e hx
  exact there b o' (neC b o e hx) e1
 ·obtain⟨m1,e1⟩:=I.base.tbls b ps e
  obtain⟨m2,e2⟩:=tbls b _ e1
  exact⟨m1++m2,by rw[e2,Array.append_assoc]⟩
 ·obtain⟨m,hn,hl⟩:=I.loc
  refine⟨m,ns m hn,fun i x v e1 e2 e3=>?_⟩
  obtain⟨u,r,l⟩:=hl i x v e1 e2 e3
  refine⟨u,r,?_⟩
  rcases l with l|⟨k,c,e,z⟩
  ·exact .inl l
  ·exact .inr ⟨k,c,e,cellK x c e _ z⟩
 ·obtain⟨v,z⟩:=I.cell x c e
  exact⟨v,cellK x c e v z⟩
 ·obtain⟨m,⟨o,_,_,ho,_⟩,_⟩:=I.loc
  exact free _ o (fun z=>(hch _ z).2.1 rfl) ho I.free
 ·obtain⟨v,o,ho,hd⟩:=I.cell x c e
  exact free c o (fun z=>(hch c z).2.2.1 x c e rfl) ho (I.freeC x c e)
 ·obtain⟨e,n,ne,nf,d⟩:=I.pin p hp
  have nch:p.1∉ch:=fun z=>(hch p.1 z).2.2.2 p hp rfl
  exact⟨keep p.1 p.2 ne nf nch e n,free p.1 p.2 nch e n,ne,nf,d⟩
theorem Inv.un {t':Nat}(I:Inv X pins σ H s)(u:Un X.fs [] H H' s.heap h')(hok:HOk X.prog X.w H' h'):Inv X pins σ H' {s with heap:=h',toks:=t'}:=by
 obtain⟨m,⟨o,es,ep,ho,r⟩,_⟩:=id I.loc
 obtain⟨sl,hL⟩:=u.any ho I.free (by simp)
 exact I.step (g':=s.gens) (d':=s.drawn) (ch:=[]) (fun _ z=>nomatch z) (fun b o _ hb _ e n=>u.keep b o e n hb (by simp)) (fun b o _ hb _ e n=>u.slot b o e n hb (by simp)) (fun b o _ e n=>u.free b o e n (by simp)) (fun b o _ e=>u.there b o e (by simp)) u.tups u.frzs u.tbls (fun m' hm=>by
  obtain⟨o',es',ep',ho',r'⟩:=hm
  rw[ho] at ho';cases ho'
  exact⟨_,es',ep',hL,r'⟩) hok I.bare
theorem Inv.call {g':Array GenState}{t':Nat}{d':Drawn}{ch:List Addr}(I:Inv X pins σ H s)(u:Un (frs X.stack) ch H H' s.heap h')(hok:HOk X.prog X.w H' h')(hg:AllBare g')
  (hch:∀b∈ch,(b∈X.ex∨X.s₀.heap.objs.size≤b)∧b≠X.env.locals∧(∀x c,X.env.cells.lookup x=some c→c≠b)∧∀p∈X.pn++pins,p.1≠b) :
  Inv X pins σ H' {s with heap:=h',gens:=g',drawn:=d',toks:=t'}:=by
 obtain⟨m,⟨o,es,ep,ho,r⟩,_⟩:=id I.loc
 obtain⟨sl,hL⟩:=u.any ho I.free fun z=>(hch _ z).2.1 rfl
 exact I.step (ch:=ch) hch (fun b o hL hb hc e n=>u.keep b o e n (fun z=>(List.mem_cons.mp (I.stkSub b z)).elim hL hb) hc) (fun b o _ _ hc e n=>u.any e n hc) (fun b o hc e n=>u.free b o e n hc) (fun b o hc e=>u.there b o e hc) u.tups u.frzs u.tbls (fun m' hm=>by
  obtain⟨o',es',ep',ho',r'⟩:=hm
  rw[ho] at ho';cases ho'
  exact⟨_,es',ep',hL,r'⟩) hok hg
theorem Inv.turned {t':Nat}{it:Addr}(I:Inv X pins σ H s)(k:∀b o,b≠it→s.heap.get? b=some o→h'.get? b=some o)(hn:H it=none)(hL:it≠X.env.locals)
  (h1:it∈X.ex∨X.s₀.heap.objs.size≤it) (h2:∀x c,X.env.cells.lookup x=some c→c≠it) (h3:∀p∈X.pn++pins,p.1≠it):Inv X pins σ H {s with heap:=h',toks:=t'}:=by
 have nit:∀b u,H b=some u→b≠it:=fun b u e z=>by rw[z,hn] at e;cases e
 refine I.step (g':=s.gens) (d':=s.drawn) (ch:=[it]) (fun b hb=>?_) (fun b o _ _ hc e _=>k b o (fun z=>hc (by simp[z])) e) (fun b o _ _ hc e _=>⟨o.slots,k b o (fun z=>hc (by simp[z])) e⟩) (fun _ _ _ _ n=>n)
  (fun b o hc e=>⟨o,k b o (fun z=>hc (by simp[z])) e⟩) (fun _ _ e=>e) (fun _ _ _ e=>e) (fun b ps e=>⟨#[],by rw[e];simp⟩) (fun m hm=>?_) (fun b u e=>?_) I.bare
 ·have e:b=it:=by simpa using hb
  subst e
  exact⟨h1,hL,h2,h3⟩
 ·obtain⟨o,es,ep,ho,r⟩:=hm
  exact⟨o,es,ep,k _ o (Ne.symm hL) ho,r⟩
 ·refine(I.hok b u e).stay (fun c v hc q=>k c v ?_ q) (fun _ q=>q) fun _ _ q=>q
  rcases hc with z|z
  ·rw[z];exact nit b u e
  ·exact nit c _ z
theorem Inv.tok (I:Inv X pins σ H s)(t:Nat):Inv X pins σ H {s with toks:=t}:=I.un (h':=s.heap) (t':=t) Un.refl I.hok
theorem Inv.kept {t':Nat}(I:Inv X pins σ H s)(k:∀b u,s.heap.get? b=some u→h'.get? b=some u):Inv X pins σ H {s with heap:=h',toks:=t'}:=I.un (Un.kept k) (I.hok.kept k)
theorem Inv.laid {a:Addr}{o:HO}{t':Nat}(I:Inv X pins σ H s)(k:∀b u,s.heap.get? b=some u→h'.get? b=some u)(hp:s.heap.objs.size≤a)(new:ObjOk X.prog X.w (upd H a o) h' a o) :
  Inv X pins σ (upd H a o) {s with heap:=h',toks:=t'}:=I.un (Un.laid k hp (I.hok.fresh hp)) (I.hok.laid k hp new)
theorem Inv.write {x e:Addr}{o:HO}{t':Nat}(I:Inv X pins σ H s)(mu:Mut (H x))(he:e=x∨H e=some (.own x))(k:∀b u,b≠e→s.heap.get? b=some u→h'.get? b=some u)(heo:∃u,h'.get? e=some u)
  (new:ObjOk X.prog X.w (upd H x o) h' x o):Inv X pins σ (upd H x o) {s with heap:=h',toks:=t'}:=I.un (Un.write mu he k heo) (I.hok.write mu he k heo new)
theorem Inv.weak {σ':List (Option V)}(I:Inv X pins σ H s)(hl:σ'.length=σ.length)(w:∀(i:Nat) v,σ'[i]? = some (some v)→σ[i]? = some (some v)):Inv X pins σ' H s :=
 ⟨I.ok,I.os,I.bare,I.base,let ⟨m,hn,hl'⟩:=I.loc;⟨m,hn,fun i x v e1 e2 e3=>hl' i x v e1 (w i v e2) e3⟩,I.cell,I.free,I.freeC,I.pin,I.hok,hl.trans I.len⟩
theorem Inv.pins_of {pins':List (Addr×Obj)}(I:Inv X pins σ H s)(h:∀p∈pins',s.heap.get? p.1=some p.2∧H p.1=none∧p.1≠X.env.locals∧p.1∉X.fs∧∀v,p.2.data≠.cell v):Inv X pins' σ H s :=
 ⟨I.ok,I.os,I.bare,I.base,I.loc,I.cell,I.free,I.freeC,fun p hp=>(List.mem_append.mp hp).elim (fun z=>I.pin p (List.mem_append_left _ z)) (h p),I.hok,I.len⟩
theorem nodup_ix {N:List Str}(hN:N.Nodup){i j:Nat}{x:Str}(a:N[i]? = some x)(b:N[j]? = some x):i=j:=by
 obtain⟨h1,e1⟩:=List.getElem?_eq_some_iff.mp a
 obtain⟨h2,e2⟩:=List.getElem?_eq_some_iff.mp b
 exact(List.getElem_inj hN).mp (e1.trans e2.symm)
theorem store_ok2 {M:Model}{A:Around}{E:Value→Shared→Prop}{i:Nat}{x:Str}{v:V}{u:Value}{Q:Unit→Shared→Prop}(I:Inv X pins σ H s)(hN:X.N.Nodup)(hi:X.N[i]? = some x)(hx:Loc X.env.scope x)(r:RelV v u)
  (h:∀s',Inv X pins (σ.set i (some v)) H s'→(∃a,Heap.SameBut a s.heap s'.heap∧(a=X.env.locals∨X.env.cells.lookup x=some a))→Q () s') (hf:X.fn x=true∨X.env.scope.names.lookup x=some .local:=by first|exact .inl rfl|exact .inr rfl|assumption):wpAny M A (storeName X.env x u) Q E s:=by
 obtain⟨m,hn,hl⟩:=id I.loc
 have hcls:(X.env.scope.kind == .class || (X.env.scope.kind == .module&&X.env.locals != X.env.globals))=false:=by rw[I.ok.kind];rfl
 have hiσ:i<σ.length:=by rw[I.len];exact(List.getElem?_eq_some_iff.mp hi).1
 have cne:=I.cne
 have tracked:∀{a:Addr}{h':Heap},(∃o,s.heap.get? a=some o∧H a=none)→Heap.SameBut a s.heap h'→HOk X.prog X.w H h':=fun {a h'} ha hs b ob e=>by
  obtain⟨_,_,hfree⟩:=ha
  refine(I.hok b ob e).stay (fun c w' hc q=>(hs.2 c ?_).trans q) (fun _ q=>q) fun _ _ q=>q
  rintro rfl
  rcases hc with rfl|hc
  ·rw[hfree] at e;cases e
  ·rw[hfree] at hc;cases hc
 rcases hx with hk|hk
 ·refine wpAny_storeName_local hk hn (fun h' hn' hs=>?_) hcls
  obtain⟨oL,_,_,hoL,_⟩:=id hn
  refine h _ ⟨I.ok,I.os,I.bare,⟨fun b o e n hb hx=>?_,fun b o e n hb hx=>?_,I.base.free,fun b o e hx=>?_,I.base.tups,I.base.frzs,I.base.tbls⟩,⟨_,hn',fun j y v' e1 e2 e3=>?_⟩,fun y c e=>?_,I.free,I.freeC,fun p hp=>?_,tracked ⟨oL,hoL,I.free⟩ hs,by simpa using I.len⟩ ⟨_,hs,.inl rfl⟩
  ·exact(hs.2 b (Nat.ne_of_lt (Nat.lt_of_lt_of_le (Heap.lt_size e) I.ok.above))).trans (I.base.keep b o e n hb hx)
  ·obtain⟨sl,e1⟩:=I.base.slot b o e n hb hx
   exact⟨sl,(hs.2 b (Nat.ne_of_lt (Nat.lt_of_lt_of_le (Heap.lt_size e) I.ok.above))).trans e1⟩
  ·obtain⟨o',e1⟩:=I.base.there b o e hx
   exact⟨o',(hs.2 b (Nat.ne_of_lt (Nat.lt_of_lt_of_le (Heap.lt_size e) I.ok.above))).trans e1⟩
  ·by_cases hj:j=i
   ·subst hj
    rw[hi] at e1;cases e1
    rw[List.getElem?_set_self hiσ] at e2
    cases e2
    exact⟨u,r,.inl ⟨hk,by simp⟩⟩
   ·rw [List.getElem?_set_ne (Ne.symm hj)] at e2
    obtain⟨u',r',q⟩:=hl j y v' e1 e2 e3
    refine⟨u',r',?_⟩
    rcases q with⟨k,e⟩|⟨k,c,e,z⟩
    ·refine .inl ⟨k,?_⟩
     have:y≠x:=fun e=>hj (nodup_ix hN e1 (e▸hi))
     simp[this,e]
    ·exact .inr ⟨k,c,e,z.sameBut hs (cne y c e)⟩
  ·obtain⟨w',z⟩:=I.cell y c e
   exact⟨w',z.sameBut hs (cne y c e)⟩
  ·obtain⟨e,n,ne,nf,d⟩:=I.pin p hp
   exact⟨(hs.2 p.1 ne).trans e,n,ne,nf,d⟩
 ·have hfn:X.fn x=true:=by
   rcases hf with z|z
   ·exact z
   ·rw[z] at hk;cases hk
  obtain⟨c,hc⟩:=I.ok.has x (.inl hk)
  obtain⟨w',z⟩:=I.cell x c hc
  refine wpAny_storeName_cell I.ok.kind hk hc z (fun h' hc' hs=>?_)
  obtain⟨oc,hoc,hocd⟩:=id z
  refine h {s with heap:=h'} ⟨I.ok,I.os,I.bare,⟨fun b o e n hb hx=>?_,fun b o e n hb hx=>?_,I.base.free,fun b o e hx=>?_,I.base.tups,I.base.frzs,I.base.tbls⟩,⟨m,hn.sameBut hs (Ne.symm (cne x c hc)),fun j y v' e1 e2 e3=>?_⟩,fun y c' e=>?_,I.free,I.freeC,fun p hp=>?_,tracked ⟨oc,hoc,I.freeC x c hc⟩ hs,by simpa using I.len⟩ ⟨c,hs,.inr hc⟩
  ·exact(hs.2 b (Nat.ne_of_lt (Nat.lt_of_lt_of_le (Heap.lt_size e) (I.ok.cab x c hfn hc)))).trans (I.base.keep b o e n hb hx)
  ·obtain⟨sl,e1⟩:=I.base.slot b o e n hb hx
   exact⟨sl,(hs.2 b (Nat.ne_of_lt (Nat.lt_of_lt_of_le (Heap.lt_size e) (I.ok.cab x c hfn hc)))).trans e1⟩
  ·obtain⟨o',e1⟩:=I.base.there b o e hx
   exact⟨o',(hs.2 b (Nat.ne_of_lt (Nat.lt_of_lt_of_le (Heap.lt_size e) (I.ok.cab x c hfn hc)))).trans e1⟩
  ·by_cases hj:j=i
   ·subst hj
    rw[hi] at e1;cases e1
    rw[List.getElem?_set_self hiσ] at e2
    cases e2
    exact⟨u,r,.inr ⟨.inl hk,c,hc,hc'⟩⟩
   ·rw [List.getElem?_set_ne (Ne.symm hj)] at e2
    obtain⟨u',r',q⟩:=hl j y v' e1 e2 e3
    refine⟨u',r',?_⟩
    rcases q with q|⟨k,c',e,z'⟩
    ·exact .inl q
    ·refine .inr ⟨k,c',e,z'.sameBut hs ?_⟩
     rintro rfl
     exact hj (nodup_ix hN e1 (I.ok.inj _ _ _ e hc▸hi))
  ·by_cases hcc:c'=c
   ·subst hcc;exact⟨_,hc'⟩
   ·obtain⟨w2,z2⟩:=I.cell y c' e
    exact⟨w2,z2.sameBut hs hcc⟩
  ·obtain⟨e,n,ne,nf,d⟩:=I.pin p hp
   refine⟨(hs.2 p.1 ?_).trans e,n,ne,nf,d⟩
   intro q
   rw[q,hoc] at e
   have q':oc=p.2:=Option.some.inj e
   exact d w' (by rw[← q'];exact hocd)
theorem store_ok {M:Model}{A:Around}{E:Value→Shared→Prop}{i:Nat}{x:Str}{v:V}{u:Value}{Q:Unit→Shared→Prop}(I:Inv X pins σ H s)(hN:X.N.Nodup)(hi:X.N[i]? = some x)(hx:Loc X.env.scope x)(r:RelV v u)
  (h:∀s',Inv X pins (σ.set i (some v)) H s'→Q () s') (hf:X.fn x=true∨X.env.scope.names.lookup x=some .local:=by first|exact .inl rfl|exact .inr rfl|assumption):wpAny M A (storeName X.env x u) Q E s :=
 store_ok2 I hN hi hx r (fun s' I' _=>h s' I') hf
theorem Inv.call' {s':Shared}{ch:List Addr}(I:Inv X pins σ H s)(ho:s'.os=s.os)(u:Un (frs X.stack) ch H H' s.heap s'.heap)(hok:HOk X.prog X.w H' s'.heap)(hg:AllBare s'.gens)
  (hch:∀b∈ch,(b∈X.ex∨X.s₀.heap.objs.size≤b)∧b≠X.env.locals∧(∀x c,X.env.cells.lookup x=some c→c≠b)∧∀p∈X.pn++pins,p.1≠b):Inv X pins σ H' s':=by
 obtain⟨h',g',d',t',o'⟩:=s'
 have e:o'=s.os:=ho
 subst e
 exact I.call (g':=g') (t':=t') (d':=d') u hok hg hch
end
abbrev XK:=Value→Option Addr→Hp→Prop
abbrev St:=List (Option V)
abbrev VK:=V→Hp→Prop
abbrev TE:=St→Hp→VK→Prop
abbrev TT:=St→Hp→(Bool→Hp→Prop)→Prop
abbrev TA:=St→Hp→(List V→Hp→Prop)→Prop
structure Ends where
 nx:St→Hp→Prop
 rt:VK
 bk:St→Hp→Prop:=fun _ _=>False
 ct:St→Hp→Prop:=fun _ _=>False
abbrev TS:=Ends→St→Hp→Prop
inductive EP (X:Cx)(pins:List (Addr×Obj))(σ:St)(Q:VK)(u:Value)(s':Shared):Prop
 | mk (v:V) (H':Hp) (I:Inv X pins σ H' s') (r:RelV v u) (q:Q v H')
inductive TP (X:Cx)(pins:List (Addr×Obj))(σ:St)(Q:Bool→Hp→Prop)(b:Bool)(s':Shared):Prop
 | mk (H':Hp) (I:Inv X pins σ H' s') (q:Q b H')
inductive AP (X:Cx)(pins:List (Addr×Obj))(σ:St)(Q:List V→Hp→Prop)(us:List Value)(s':Shared):Prop
 | mk (vs:List V) (H':Hp) (I:Inv X pins σ H' s') (r:Vals vs us) (q:Q vs H')
inductive SN (X:Cx)(pins:List (Addr×Obj))(Q:St→Hp→Prop)(s':Shared):Prop
 | mk (a:St) (b:Hp) (I:Inv X pins a b s') (q:Q a b)
inductive SR (X:Cx)(pins:List (Addr×Obj))(Q:VK)(u:Value)(s':Shared):Prop
 | mk (v:V) (a:St) (b:Hp) (I:Inv X pins a b s') (r:RelV v u) (q:Q v b)
def SP (X:Cx)(pins:List (Addr×Obj))(D:Ends)(f:Flow)(s':Shared):Prop :=
 match f with
 | .next=>SN X pins D.nx s'
 | .brk=>SN X pins D.bk s'
 | .cont=>SN X pins D.ct s'
 | .ret u=>SR X pins D.rt u s'
def PE (X:Cx)(e:Expr)(t:TE):Prop :=
 ∀(pins:List (Addr×Obj)) (s:Shared) (σ:St) (H:Hp) (Q:VK),Inv X pins σ H s→t σ H Q→wpAny (model X.prog X.w) X.A (eval e X.env) (EP X pins σ Q) X.xe s
def PT (X:Cx)(e:Expr)(t:TT):Prop :=
 ∀(pins:List (Addr×Obj)) (s:Shared) (σ:St) (H:Hp) (Q:Bool→Hp→Prop),Inv X pins σ H s→t σ H Q→wpAny (model X.prog X.w) X.A (isTrue e X.env (eval e X.env)) (TP X pins σ Q) X.xe s
def PW (X:Cx)(e:Expr)(t:TT):Prop :=
 ∀(whole:Sem Value) (pins:List (Addr×Obj)) (s:Shared) (σ:St) (H:Hp) (Q:Bool→Hp→Prop),Inv X pins σ H s→t σ H Q→wpAny (model X.prog X.w) X.A (isTrue e X.env whole) (TP X pins σ Q) X.xe s
theorem PW.pt {X:Cx}{e:Expr}{t:TT}(h:PW X e t):PT X e t:=h _
def PA (X:Cx)(es:List Expr)(t:TA):Prop :=
 ∀(pos:Pos) (pins:List (Addr×Obj)) (s:Shared) (σ:St) (H:Hp) (Q:List V→Hp→Prop),Inv X pins σ H s→t σ H Q→wpAny (model X.prog X.w) X.A (spliced (backTo pos (starEach es X.env))) (AP X pins σ Q) X.xe s
def PS (X:Cx)(st:Stmt)(t:TS):Prop :=
 ∀(pins:List (Addr×Obj)) (s:Shared) (σ:St) (H:Hp) (D:Ends),Inv X pins σ H s→t D σ H→wpAny (model X.prog X.w) X.A (exec st X.env) (SP X pins D) X.xe s
def PSs (X:Cx)(st:List Stmt)(t:TS):Prop :=
 ∀(pins:List (Addr×Obj)) (s:Shared) (σ:St) (H:Hp) (D:Ends),Inv X pins σ H s→t D σ H→wpAny (model X.prog X.w) X.A (execs st X.env) (SP X pins D) X.xe s
theorem thn {α:Type}{t:Sem α}{Q Q':α→Shared→Prop}{M:Model}{A:Around}{E:Value→Shared→Prop}{s:Shared}(h:wpAny M A t Q E s)(hQ:∀a s,Q a s→Q' a s):wpAny M A t Q' E s:=wpAny_mono h hQ fun _ _ x=>x
end L2
namespace L2
open PySem PySem.Spec PyProof.Rows
section
variable {X:Cx}
def tVar (i:Nat):TE:=fun σ H Q=>∃v,σ[i]? = some (some v)∧Q v H
def tC (v:V):TE:=fun _ H Q=>Q v H
theorem pe_var {i:Nat}{x:Str}{pos:Pos}(hN:X.N[i]? = some x)(hv:Vis X.env.scope x)(hd:(x == ("__debug__" : Str))=false:=by decide)(hcd:(x == ("__classdict__" : Str))=false:=by decide):PE X (.Name x pos) (tVar i):=by
 intro pins s σ H Q I h
 obtain⟨v,e,h⟩:=h
 obtain⟨m,hn,hl⟩:=I.loc
 obtain⟨u,r,l⟩:=hl i x v hN e hv
 have fin:EP X pins σ Q u s:=⟨v,H,I,r,h⟩
 rcases l with⟨hk,hm⟩|⟨hk,c,hc,hcell⟩
 ·exact wpAny_Name (wpAny_loadName_local I.ok.kind hk hn hm fin) hd
 ·rcases hk with hk|hk
  ·exact wpAny_Name (wpAny_loadName_cell I.ok.kind hk hc hcell fin) hd
  ·exact wpAny_Name (wpAny_loadName_free I.ok.kind hk hc hcell fin hcd) hd
theorem pe_int {i j pos}:PE X (.Constant (.int i) j pos) (tC (.int i)):=fun _ _ _ H _ I h=>wpAny_Constant_int ⟨.int i,H,I.tok _,⟨_,rfl⟩,h⟩
theorem pe_bl {b j pos}:PE X (.Constant (.bool b) j pos) (tC (.bl b)):=fun _ _ _ H _ I h=>Constant_bool ⟨.bl b,H,I,rfl,h⟩
theorem pe_non {j pos}:PE X (.Constant .none j pos) (tC .non):=fun _ _ _ H _ I h=>Constant_none ⟨.non,H,I,rfl,h⟩
theorem pe_str {x j pos}:PE X (.Constant (.str x) j pos) (tC (.str x)):=fun _ _ _ H _ I h=>Calls.Constant_str ⟨.str x,H,I.tok _,⟨_,rfl⟩,h⟩
def Gl (X:Cx)(x:Str):Prop:=X.env.kindOf x=some .globalImplicit
theorem ld_glob {E:Value→Shared→Prop}{pins:List (Addr×Obj)}{s:Shared}{σ:St}{H:Hp}{x:Str}{u:Value}{pos:Pos}{Q:Value→Shared→Prop}(I:Inv X pins σ H s)(hg:Gl X x)(hm:X.mg x=some u)(h:Q u s)
  (hd:(x == ("__debug__" : Str))=false:=by decide):wpAny (model X.prog X.w) X.A (eval (.Name x pos) X.env) Q E s :=
 Calls.Name_function_global I.ok.kind hg (Calls.loadGlobal_global (by rw[I.ok.glob];exact I.mod.glob.keeps I.bk) hm h) hd
theorem ld_blt {E:Value→Shared→Prop}{pins:List (Addr×Obj)}{s:Shared}{σ:St}{H:Hp}{x:Str}{u:Value}{pos:Pos}{Q:Value→Shared→Prop}(I:Inv X pins σ H s)(hg:Gl X x)(hm:X.mg x=none)(hv:bootBuiltins x=some u)(h:Q u s)
  (hn:x ≠ "__name__" := by decide) (hd:(x == ("__debug__" : Str))=false:=by decide):wpAny (model X.prog X.w) X.A (eval (.Name x pos) X.env) Q E s:=by
 obtain⟨mb,h1,h2⟩:=I.mod.blt
 exact Calls.Name_function_global I.ok.kind hg (Calls.loadGlobal_builtin (by rw[I.ok.glob];exact I.mod.glob.keeps I.bk) hm (by rw[I.ok.blt];exact h1.keeps I.bk) ((h2 x hn).trans hv) h) hd
theorem pe_glob {x:Str}{v:V}{u:Value}{pos:Pos}(hg:Gl X x)(hm:X.mg x=some u)(r:RelV v u)(hd:(x == ("__debug__" : Str))=false:=by decide):PE X (.Name x pos) (tC v) :=
 fun _ _ _ H _ I h=>ld_glob I hg hm ⟨v,H,I,r,h⟩ hd
theorem pe_bltn {x:Str}{v:V}{u:Value}{pos:Pos}(hg:Gl X x)(hm:X.mg x=none)(hv:bootBuiltins x=some u)(r:RelV v u)(hn:x ≠ "__name__" := by decide)(hd:(x == ("__debug__" : Str))=false:=by decide):PE X (.Name x pos) (tC v) :=
 fun _ _ _ H _ I h=>ld_blt I hg hm hv ⟨v,H,I,r,h⟩ hn hd
variable {a b:Expr}{ta tb:TE}{pos:Pos}
def PC (X:Cx)(op:CmpOp)(a b:Expr)(t:TE):Prop :=
 ∀ (pins:List (Addr×Obj)) (s:Shared) (σ:St) (H:Hp) (Q:VK),Inv X pins σ H s→t σ H Q →
  wpAny (model X.prog X.w) X.A (eval a X.env) (fun v s₁=>wpAny (model X.prog X.w) X.A (eval b X.env) (fun u s₂=>wpAny (model X.prog X.w) X.A (compareOp op v u) (EP X pins σ Q) X.xe s₂) X.xe s₁) X.xe s
theorem nobehind (b:Expr){op:CmpOp}(h:op≠.In)(h2:op≠.NotIn):behindInMarks op b=false:=by
 have e1:(op == CmpOp.In)=false:=by cases op <;>first|rfl|exact absurd rfl h
 have e2:(op == CmpOp.NotIn)=false:=by cases op <;>first|rfl|exact absurd rfl h2
 cases b <;>simp[behindInMarks,e1,e2]
def tIsN (ta:TE):TE:=fun σ H Q=>ta σ H fun x H1=>Q (.bl (decide (x=.non))) H1
def tNotN (ta:TE):TE:=fun σ H Q=>ta σ H fun x H1=>Q (.bl (!decide (x=.non))) H1
theorem RelV.none_iff {x:V}{v:Value}(r:RelV x v):(v == Value.none)=decide (x=.non):=by
 cases x with
 | non=>cases r;rfl
 | bl _=>cases r;rfl
 | int _=>obtain⟨t,rfl⟩:=r;rfl
 | str _=>obtain⟨t,rfl⟩:=r;rfl
 | byt _=>obtain⟨t,rfl⟩:=r;rfl
 | flt _=>obtain⟨t,rfl⟩:=r;rfl
 | ref _=>cases r;rfl
 | ty _=>cases r;rfl
theorem pc_isN {j pos'}(ha:PE X a ta):PC X .Is a (.Constant .none j pos') (tIsN ta):=by
 intro pins s σ H Q I h
 refine thn (ha pins s σ H _ I h) fun v s1 hq0=>?_
 obtain⟨x,H1,I1,r1,q1⟩:=hq0
 exact Constant_none (is_none_gen ⟨.bl _,H1,I1,by rw[r1.none_iff];rfl,q1⟩)
theorem pc_notN {j pos'}(ha:PE X a ta):PC X .IsNot a (.Constant .none j pos') (tNotN ta):=by
 intro pins s σ H Q I h
 refine thn (ha pins s σ H _ I h) fun v s1 hq1=>?_
 obtain⟨x,H1,I1,r1,q1⟩:=hq1
 exact Constant_none (isnot_none_gen ⟨.bl _,H1,I1,by rw[r1.none_iff];rfl,q1⟩)
def tB (t:TE):TT:=fun σ H Q=>t σ H fun x H1=>∃c,x=.bl c∧Q c H1
theorem pe_cmp {op:CmpOp}{t:TE}(h:PC X op a b t)(h1:behindInMarks op b=false:=by first|exact nobehind _ (by decide) (by decide)|rfl):PE X (.Compare a [op] [b] pos) t:=fun pins s σ H Q I hw=>wpAny_Compare1 (h pins s σ H Q I hw) h1
theorem pt_cmp {op:CmpOp}{t:TE}(h:PC X op a b t)(h1:behindInMarks op b=false:=by first|exact nobehind _ (by decide) (by decide)|rfl):PT X (.Compare a [op] [b] pos) (tB t):=by
 intro pins s σ H Q I hw
 refine wpAny_isTrue_Compare1 (thn (h pins s σ H _ I hw) fun v s1 h1=>thn h1 fun u s2 h2=>thn h2 fun c s3 ⟨x,H1,I1,r1,q1⟩=>?_) h1
 obtain⟨d,rfl,q⟩:=q1
 cases r1
 exact wpAny_truthy_bool ⟨H1,I1,q⟩
theorem pt_val {e:Expr}{t:TE}(h:PE X e t)(he:∀whole,isTrue e X.env whole=(do let v ← whole;standAt e.pos;holding [v] (truthy v)):=by intro _;rfl):PT X e (tB t):=by
 intro pins s σ H Q I hw
 refine isTrue_plain (thn (h pins s σ H _ I hw) fun v s1 hq2=>?_) (he _)
 obtain⟨x,H1,I1,r1,q1⟩:=hq2
 obtain⟨d,rfl,q⟩:=q1
 cases r1
 exact wpAny_truthy_bool ⟨H1,I1,q⟩
variable {tA tB':TT}{rest:List Expr}
def tAnd (t u:TT):TT:=fun σ H Q=>t σ H fun c H1=>if c=true then u σ H1 Q else Q false H1
def tOr (t u:TT):TT:=fun σ H Q=>t σ H fun c H1=>if c=true then Q true H1 else u σ H1 Q
def tNot (t:TT):TT:=fun σ H Q=>t σ H fun c H1=>Q (!c) H1
theorem pw_and1 (ha:PT X a tA):PW X (.BoolOp .And [a] pos) tA:=by
 intro wh pins s σ H Q I h
 refine isTrue_and (thn (ha pins s σ H Q I h) fun c s1 e=>?_)
 cases c with
 | true=>exact isTrue_and_nil e
 | false=>exact e
theorem pw_or1 (ha:PT X a tA):PW X (.BoolOp .Or [a] pos) tA:=by
 intro wh pins s σ H Q I h
 refine isTrue_or (thn (ha pins s σ H Q I h) fun c s1 e=>?_)
 cases c with
 | false=>exact isTrue_or_nil e
 | true=>exact e
theorem pw_and (ha:PT X a tA)(hb:PW X (.BoolOp .And (b::rest) pos) tB'):PW X (.BoolOp .And (a::b::rest) pos) (tAnd tA tB'):=by
 intro wh pins s σ H Q I h
 refine isTrue_and (thn (ha pins s σ H _ I h) fun c s1 hq3=>?_)
 obtain⟨H1,I1,q1⟩:=hq3
 cases c with
 | true=>exact hb wh pins s1 σ H1 Q I1 q1
 | false=>exact⟨H1,I1,q1⟩
theorem pw_or (ha:PT X a tA)(hb:PW X (.BoolOp .Or (b::rest) pos) tB'):PW X (.BoolOp .Or (a::b::rest) pos) (tOr tA tB'):=by
 intro wh pins s σ H Q I h
 refine isTrue_or (thn (ha pins s σ H _ I h) fun c s1 hq4=>?_)
 obtain⟨H1,I1,q1⟩:=hq4
 cases c with
 | true=>exact⟨H1,I1,q1⟩
 | false=>exact hb wh pins s1 σ H1 Q I1 q1
theorem pt_not (ha:PT X a tA):PT X (.UnaryOp .Not a pos) (tNot tA):=by
 intro pins s σ H Q I h
 exact isTrue_not (thn (ha pins s σ H (fun c H1=>Q (!c) H1) I h) fun _ _ ⟨b,I,q⟩=>⟨b,I,q⟩)
def tAndV (ta tb:TE):TE:=fun σ H Q=>ta σ H fun x H1=>∃c,x=.bl c∧if c=true then tb σ H1 Q else Q (.bl false) H1
def tOrV (ta tb:TE):TE:=fun σ H Q=>ta σ H fun x H1=>∃c,x=.bl c∧if c=true then Q (.bl true) H1 else tb σ H1 Q
def tNotV (ta:TE):TE:=fun σ H Q=>ta σ H fun x H1=>∃c,x=.bl c∧Q (.bl (!c)) H1
theorem pe_one {op}{t:TE}(h:PE X a t):PE X (.BoolOp op [a] pos) t:=fun pins s σ H Q I hw=>BoolOp_one (h pins s σ H Q I hw)
theorem pe_and (ha:PE X a ta)(hb:PE X (.BoolOp .And (b::rest) pos) tb):PE X (.BoolOp .And (a::b::rest) pos) (tAndV ta tb):=by
 intro pins s σ H Q I h
 refine BoolOp_and (thn (ha pins s σ H _ I h) fun v s1 hq5=>?_)
 obtain⟨x,H1,I1,r1,q1⟩:=hq5
 obtain⟨c,rfl,q1⟩:=q1
 cases r1
 refine wpAny_truthy_bool ?_
 cases c with
 | true=>exact hb pins s1 σ H1 Q I1 q1
 | false=>exact⟨.bl false,H1,I1,rfl,q1⟩
theorem pe_or (ha:PE X a ta)(hb:PE X (.BoolOp .Or (b::rest) pos) tb):PE X (.BoolOp .Or (a::b::rest) pos) (tOrV ta tb):=by
 intro pins s σ H Q I h
 refine BoolOp_or (thn (ha pins s σ H _ I h) fun v s1 hq6=>?_)
 obtain⟨x,H1,I1,r1,q1⟩:=hq6
 obtain⟨c,rfl,q1⟩:=q1
 cases r1
 refine wpAny_truthy_bool ?_
 cases c with
 | false=>exact hb pins s1 σ H1 Q I1 q1
 | true=>exact⟨.bl true,H1,I1,rfl,q1⟩
theorem pe_not (ha:PE X a ta):PE X (.UnaryOp .Not a pos) (tNotV ta):=by
 intro pins s σ H Q I h
 refine UnaryOp_ (thn (ha pins s σ H _ I h) fun v s1 hq7=>?_)
 obtain⟨x,H1,I1,r1,q1⟩:=hq7
 obtain⟨c,rfl,q1⟩:=q1
 cases r1
 exact not_of (wpAny_truthy_bool ⟨.bl (!c),H1,I1,rfl,q1⟩)
def tIf (t:TT)(ta tb:TE):TE:=fun σ H Q=>t σ H fun c H1=>if c=true then ta σ H1 Q else tb σ H1 Q
theorem pe_ifExp {c:Expr}(hc:PT X c tA)(ha:PE X a ta)(hb:PE X b tb):PE X (.IfExp c a b pos) (tIf tA ta tb):=by
 intro pins s σ H Q I h
 refine wpAny_IfExp (thn (hc pins s σ H _ I h) fun d s1 hq8=>?_)
 obtain⟨H1,I1,q1⟩:=hq8
 cases d with
 | true=>exact ha pins s1 σ H1 Q I1 q1
 | false=>exact hb pins s1 σ H1 Q I1 q1
end
end L2
namespace L2
open PySem PySem.Spec PyProof.Rows
def SqL (K:PySem.W.Frag)(H:Hp)(a:Addr)(xs:List V):Prop :=
 Rd H a (.lst xs) ∨
  ∃(o:Obj) (its:Array Value) (n:Nat),K.lookup a=some o∧o.cls=.type "list" ∧ o.dict=none∧o.data=.seq its n∧its.size≤sizeLine∧Vals xs its.toList
def SqT (K:PySem.W.Frag)(H:Hp)(a:Addr)(xs:List V):Prop :=
 Rd H a (.tup xs) ∨
  ∃(o:Obj) (its:Array Value) (n:Nat),K.lookup a=some o∧o.cls=.type "tuple" ∧ o.dict=none∧o.data=.seq its n∧its.size≤sizeLine∧Vals xs its.toList
def absV:Value→Option V
 | .none=>some .non
 | .bool b=>some (.bl b)
 | .int i _=>some (.int i)
 | .str x _=>some (.str x)
 | .bytes b _=>some (.byt b)
 | .float b _=>some (.flt b)
 | .ref a=>some (.ref a)
 | .type n=>some (.ty n)
 | _=>none
theorem RelV.abs {x:V}{u:Value}(r:RelV x u):absV u=some x:=by
 cases x with
 | non=>cases r;rfl
 | bl _=>cases r;rfl
 | int _=>obtain⟨t,rfl⟩:=r;rfl
 | str _=>obtain⟨t,rfl⟩:=r;rfl
 | byt _=>obtain⟨t,rfl⟩:=r;rfl
 | flt _=>obtain⟨t,rfl⟩:=r;rfl
 | ref _=>cases r;rfl
 | ty _=>cases r;rfl
theorem RelV.inj {x y:V}{u:Value}(r:RelV x u)(q:RelV y u):x=y:=Option.some.inj (r.abs.symm.trans q.abs)
theorem Vals.inj:∀{xs ys:List V}{us:List Value},Vals xs us→Vals ys us→xs=ys:=by
 intro xs ys us h k
 induction h generalizing ys with
 | nil=>cases k;rfl
 | cons r t ih=>cases k with|cons r' t'=>rw[r.inj r',ih t']
section
variable {X:Cx}{pins:List (Addr×Obj)}{σ:St}{H:Hp}{s:Shared}{a:Addr}{xs ys:List V}
theorem SqT.of {K:PySem.W.Frag}(h:H a=some (.tup xs)):SqT K H a xs:=.inl (.inl h)
theorem Inv.list (I:Inv X pins σ H s)(h:SqL X.K H a xs):∃its:List Value,Vals xs its∧PlainL s.heap a its.toArray∧xs.length≤sizeLine:=by
 rcases h with h|⟨o,its,n,hk,hc,hd,hs,hz,r⟩
 ·obtain⟨z,its,n,r,e⟩:=h.ok I.hok
  exact⟨its,r,⟨_,n,e,rfl,rfl,rfl⟩,z⟩
 ·refine⟨its.toList,r,⟨o,n,I.kIn a o hk,hc,hd,by simpa using hs⟩,?_⟩
  have e:=r.length
  simp only[Array.length_toList] at e
  omega
theorem Inv.tuple (I:Inv X pins σ H s)(h:SqT X.K H a xs):∃its:List Value,Vals xs its∧IsTup s.heap a its.toArray∧xs.length≤sizeLine:=by
 rcases h with h|⟨o,its,n,hk,hc,_,hs,hz,r⟩
 ·obtain⟨z,its,r,p⟩:=h.ok I.hok
  exact⟨its,r,p.tup,z⟩
 ·refine⟨its.toList,r,⟨o,I.kIn a o hk,hc,n,by simpa using hs⟩,?_⟩
  have e:=r.length
  simp only[Array.length_toList] at e
  omega
theorem Inv.noDict (I:Inv X pins σ H s)(h:SqT X.K H a xs):∃o,s.heap.get? a=some o∧o.cls=.type "tuple" ∧ o.dict=none:=by
 rcases h with h|⟨o,its,n,hk,hc,hd,hs,hz,r⟩
 ·obtain⟨z,its,r,o,e,c,_,d⟩:=h.ok I.hok
  exact⟨o,e,c,d⟩
 ·exact⟨o,I.kIn a o hk,hc,hd⟩
theorem Inv.list_inj (I:Inv X pins σ H s)(h:SqL X.K H a xs)(h':SqL X.K H a ys):xs=ys:=by
 obtain⟨its,r,⟨o,n,e,_,_,d⟩,_⟩:=I.list h
 obtain⟨its',r',⟨o',n',e',_,_,d'⟩,_⟩:=I.list h'
 rw[e] at e';cases e'
 rw[d] at d'
 injection d' with d1 _
 have:its=its':=by simpa using congrArg Array.toList d1
 subst this
 exact r.inj r'
theorem Inv.tuple_inj (I:Inv X pins σ H s)(h:SqT X.K H a xs)(h':SqT X.K H a ys):xs=ys:=by
 obtain⟨its,r,⟨o,e,_,n,d⟩,_⟩:=I.tuple h
 obtain⟨its',r',⟨o',e',_,n',d'⟩,_⟩:=I.tuple h'
 rw[e] at e';cases e'
 rw[d] at d'
 injection d' with d1 _
 have:its=its':=by simpa using congrArg Array.toList d1
 subst this
 exact r.inj r'
end
abbrev Cx.wish (X:Cx)(E:Value→Shared→Prop):Cx:={X with xe:=E}
abbrev Cx.nox (X:Cx):Cx:=X.wish fun _ _=>False
theorem Cx.Ok.wish {X:Cx}(ok:X.Ok)(E:Value→Shared→Prop):(X.wish E).Ok :=
 ⟨ok.mod,ok.kind,ok.glob,ok.blt,ok.above,ok.inj,ok.has,ok.cab,ok.hd,ok.frames,ok.stk,ok.exf,ok.bs,ok.bsz,ok.noex,ok.exfs,ok.funs,ok.frf⟩
theorem Cx.Ok.unwish {X:Cx}{E:Value→Shared→Prop}(ok:(X.wish E).Ok):X.Ok :=
 ⟨ok.mod,ok.kind,ok.glob,ok.blt,ok.above,ok.inj,ok.has,ok.cab,ok.hd,ok.frames,ok.stk,ok.exf,ok.bs,ok.bsz,ok.noex,ok.exfs,ok.funs,ok.frf⟩
section
variable {X:Cx}{pins:List (Addr×Obj)}{σ:St}{H:Hp}{s:Shared}{E:Value→Shared→Prop}
theorem Inv.wish (I:Inv X pins σ H s)(E:Value→Shared→Prop):Inv (X.wish E) pins σ H s:=⟨I.ok.wish E,I.os,I.bare,I.base,I.loc,I.cell,I.free,I.freeC,I.pin,I.hok,I.len⟩
theorem Inv.unwish (I:Inv (X.wish E) pins σ H s):Inv X pins σ H s:=⟨I.ok.unwish,I.os,I.bare,I.base,I.loc,I.cell,I.free,I.freeC,I.pin,I.hok,I.len⟩
theorem SP.unwish {D:Ends}{f:Flow}{s':Shared}(h:SP (X.wish E) pins D f s'):SP X pins D f s':=by
 cases f with
 | next=>obtain⟨σ',H',I,q⟩:=h;exact⟨σ',H',I.unwish,q⟩
 | brk=>obtain⟨σ',H',I,q⟩:=h;exact⟨σ',H',I.unwish,q⟩
 | cont=>obtain⟨σ',H',I,q⟩:=h;exact⟨σ',H',I.unwish,q⟩
 | ret u=>obtain⟨v,σ',H',I,r,q⟩:=h;exact⟨v,σ',H',I.unwish,r,q⟩
theorem PE.nox {e:Expr}{t:TE}(h:PE X.nox e t):PE X e t:=fun pins s σ H Q I hw =>
 wpAny_mono (h pins s σ H Q (I.wish _) hw) (fun _ _ ⟨v,H',I',r,q⟩=>⟨v,H',I'.unwish,r,q⟩) fun _ _ z=>False.elim z
theorem PT.nox {e:Expr}{t:TT}(h:PT X.nox e t):PT X e t:=fun pins s σ H Q I hw =>
 wpAny_mono (h pins s σ H Q (I.wish _) hw) (fun _ _ ⟨H',I',q⟩=>⟨H',I'.unwish,q⟩) fun _ _ z=>False.elim z
theorem PSs.nox {st:List Stmt}{t:TS}(h:PSs X.nox st t):PSs X st t:=fun pins s σ H D I hw =>
 wpAny_mono (h pins s σ H D (I.wish _) hw) (fun _ _ q=>q.unwish) fun _ _ z=>False.elim z
end
section
variable {X:Cx}{st:Stmt}{rest:List Stmt}{t u:TS}{e:Expr}{te:TE}{pos:Pos}
def tNext:TS:=fun D σ H=>D.nx σ H
def tSeq (t u:TS):TS:=fun D σ H=>t {D with nx:=u D} σ H
theorem pss_nil:PSs X [] tNext:=fun _ _ σ H _ I h=>wpAny_execs_nil ⟨σ,H,I,h⟩
theorem pss_cons (h1:PS X st t)(h2:PSs X rest u):PSs X (st::rest) (tSeq t u):=by
 intro pins s σ H D I h
 refine wpAny_execs_cons (thn (h1 pins s σ H {D with nx:=u D} I h) fun f s1 q=>?_)
 cases f with
 | next =>
  obtain⟨σ',H',I',q⟩:=q
  exact h2 pins s1 σ' H' D I' q
 | ret v=>exact q
 | brk=>exact q
 | cont=>exact q
theorem pss_one (h1:PS X st t):PSs X [st] t:=by
 intro pins s σ H D I h
 refine wpAny_execs_cons (thn (h1 pins s σ H D I h) fun f s1 q=>?_)
 cases f with
 | next=>exact wpAny_execs_nil q
 | ret v=>exact q
 | brk=>exact q
 | cont=>exact q
theorem Inv.quiet {pins:List (Addr×Obj)}{σ:St}{H:Hp}{s:Shared}(I:Inv X pins σ H s):interactive X.env=false:=by simp[interactive,I.ok.kind]
def tDrop (te:TE):TS:=fun D σ H=>te σ H fun _ H1=>D.nx σ H1
theorem ps_expr (he:PE X e te)(hs:swapsWith e none pos.line X.env=pure false:=by rfl):PS X (.Expr e pos) (tDrop te):=by
 intro pins s σ H D I h
 exact wpAny_Expr_any (thn (he pins s σ H _ I h) fun v s1 ⟨x,H1,I1,r1,q1⟩=>⟨σ,H1,I1,q1⟩) I.quiet hs
def tRet (te:TE):TS:=fun D σ H=>te σ H D.rt
theorem ps_ret (he:PE X e te):PS X (.Return (some e) pos) (tRet te):=by
 intro pins s σ H D I h
 exact wpAny_Return_some (thn (he pins s σ H _ I h) fun v s1 ⟨x,H1,I1,r1,q1⟩=>⟨x,σ,H1,I1,r1,q1⟩)
def tIfS (c:TT)(t u:TS):TS:=fun D σ H=>c σ H fun b H1=>if b=true then t D σ H1 else u D σ H1
theorem ps_if {c:Expr}{a b:List Stmt}{tc:TT}(hc:PT X c tc)(ha:PSs X a t)(hb:PSs X b u):PS X (.If c a b pos) (tIfS tc t u):=by
 intro pins s σ H D I h
 refine wpAny_If (thn (hc pins s σ H _ I h) fun d s1 hq9=>?_)
 obtain⟨H1,I1,q1⟩:=hq9
 cases d with
 | true=>exact ha pins s1 σ H1 D I1 q1
 | false=>exact hb pins s1 σ H1 D I1 q1
end
abbrev TG:=V→St→Hp→(St→Hp→Prop)→Prop
abbrev TGs:=List V→St→Hp→(St→Hp→Prop)→Prop
def PG (X:Cx)(target:Expr)(t:TG):Prop :=
 ∀ (pins:List (Addr×Obj)) (s:Shared) (σ:St) (H:Hp) (v:V) (u:Value) (Q:St→Hp→Prop),Inv X pins σ H s→RelV v u→t v σ H Q →
  wpAny (model X.prog X.w) X.A (assign target X.env u) (fun _ s'=>∃σ' H',Inv X pins σ' H' s'∧Q σ' H') X.xe s
def PGs (X:Cx)(ts:List Expr)(t:TGs):Prop :=
 ∀ (pins:List (Addr×Obj)) (s:Shared) (σ:St) (H:Hp) (vs:List V) (us:List Value) (Q:St→Hp→Prop),Inv X pins σ H s→Vals vs us→t vs σ H Q →
  wpAny (model X.prog X.w) X.A (assignInOrder ((assignEach ts X.env).map (·.2)) us) (fun _ s'=>∃σ' H',Inv X pins σ' H' s'∧Q σ' H') X.xe s
section
variable {X:Cx}{pos:Pos}
def gName (i:Nat):TG:=fun v σ H Q=>Q (σ.set i (some v)) H
theorem yc {i:Nat}{x:Str}(hN:X.N.Nodup)(hi:X.N[i]? = some x)(hx:Loc X.env.scope x)(hf:X.fn x=true∨X.env.scope.names.lookup x=some .local:=by first|exact .inl rfl|exact .inr rfl|assumption):PG X (.Name x pos) (gName i):=by
 intro pins s σ H v u Q I r h
 exact wpAny_assign_Name (store_ok I hN hi hx r (fun s' I'=>⟨_,H,I',h⟩) hf)
def gNil:TGs:=fun vs σ H Q=>vs=[]∧Q σ H
def gCons (t:TG)(u:TGs):TGs:=fun vs σ H Q=>∃v r,vs=v::r∧t v σ H fun σ' H'=>u r σ' H' Q
theorem pgs_nil:PGs X [] gNil:=by
 intro pins s σ H vs us Q I r h
 obtain⟨e,h⟩:=h
 subst e
 cases r
 exact assignInOrder_nil ⟨σ,H,I,h⟩
theorem pgs_cons {e:Expr}{es:List Expr}{t:TG}{u:TGs}(h1:PG X e t)(h2:PGs X es u)
  (hs:(assignEach (e::es) X.env).map (·.2)=assign e X.env::(assignEach es X.env).map (·.2):=by rfl):PGs X (e::es) (gCons t u):=by
 intro pins s σ H vs us Q I r h
 obtain⟨v,vr,e1,h⟩:=h
 subst e1
 cases r with
 | cons r rr =>
  rw[hs]
  refine assignInOrder_cons (thn (h1 pins s σ H _ _ _ I r h) fun _ s1 hq10=>?_)
  obtain⟨σ1,H1,I1,q1⟩:=hq10
  exact h2 pins s1 σ1 H1 _ _ Q I1 rr q1
def gTup (K:PySem.W.Frag)(n:Nat)(t:TGs):TG:=fun v σ H Q=>∃a xs,v=.ref a∧SqT K H a xs∧xs.length=n∧t xs σ H Q
theorem pg_tup {es:List Expr}{k:Nat}{t:TGs}{n:Nat}(hc:X.calm=true)(h:PGs X es t)
  (hn:(assignEach es X.env).length=n:=by rfl) (hst:(assignEach es X.env).findIdx? (·.1)=none:=by rfl):PG X (.Tuple es k pos) (gTup X.K n t):=by
 intro pins s σ H v u Q I r hw
 obtain⟨a,xs,e1,hq,hl,hw⟩:=hw
 subst e1
 cases r
 obtain⟨its,rv,ht,hz⟩:=I.tuple hq
 refine assign_Tuple_tuple (I.ok.hd hc) ht (by simp[hn,← hl,rv.length]) hst fun h' hx=>?_
 have I1:Inv X pins σ H {s with heap:=h'}:=I.kept (t':=s.toks) fun b o e=>hx b o (Nat.ne_of_lt (Heap.lt_size e)) e
 exact h pins _ σ H xs _ Q I1 (by simpa using rv) hw
def tAsg (te:TE)(g:TG):TS:=fun D σ H=>te σ H fun x H1=>g x σ H1 D.nx
theorem ps_set {i:Nat}{x:Str}{e:Expr}{te:TE}{pos':Pos}(hN:X.N.Nodup)(hi:X.N[i]? = some x)(hx:Loc X.env.scope x)(he:PE X e te)(hs:swapsWith e (some (.Name x pos')) pos.line X.env=pure false:=by rfl)(hf:X.fn x=true∨X.env.scope.names.lookup x=some .local:=by first|exact .inl rfl|exact .inr rfl|assumption) :
  PS X (.Assign [.Name x pos'] e pos) (tAsg te (gName i)):=by
 intro pins s σ H D I h
 refine wpAny_Assign_Name (thn (he pins s σ H _ I h) fun v s1 ⟨y,H1,I1,r1,q1⟩=>?_) hs
 exact store_ok I1 hN hi hx r1 (fun s2 I2=>⟨_,H1,I2,q1⟩) hf
end
section
variable {X:Cx}{pos:Pos}
def tWhile (c:TT)(tb:TS):TS:=fun D σ H=>∃W:Nat→St→Hp→Prop,(∃m,W m σ H)∧∀m σ H,W m σ H →
 c σ H fun b H1=>if b=true then ∃N:St→Hp→Prop,(∀σ' H',N σ' H'→∃m',m'<m∧W m' σ' H')∧tb {D with nx:=N,ct:=N,bk:=D.nx} σ H1 else D.nx σ H1
theorem ps_while {c:Expr}{body:List Stmt}{tc:TT}{tb:TS}(hp:PassesOwn (model X.prog X.w) X.A X.env X.xe)(hc:PT X c tc)(hb:PSs X body tb):PS X (.While c body [] pos) (tWhile tc tb):=by
 intro pins s σ H D I h
 obtain⟨W,⟨m0,w0⟩,turn⟩:=h
 refine wpAny_While (codeAny_whileLoop (fun n s'=>∃σ' H',Inv X pins σ' H' s'∧W n σ' H') ?_ m0 ⟨σ,H,I,w0⟩)
 rintro n s1 ⟨σ1,H1,I1,w1⟩
 refine wpAny_passesOwn hp (thn (hc pins s1 σ1 H1 _ I1 (turn n σ1 H1 w1)) fun b s2 hq11=>?_)
 obtain⟨H2,I2,q2⟩:=hq11
 cases b with
 | true =>
  obtain⟨N,hN,q2⟩:=q2
  rw[if_pos rfl]
  refine wpAny_passesOwn hp (thn (hb pins s2 σ1 H2 _ I2 q2) fun f s3 q3=>?_)
  cases f with
  | next =>
   obtain⟨σ3,H3,I3,n3⟩:=q3
   obtain⟨m',hm,w3⟩:=hN σ3 H3 n3
   exact⟨m',hm,σ3,H3,I3,w3⟩
  | cont =>
   obtain⟨σ3,H3,I3,n3⟩:=q3
   obtain⟨m',hm,w3⟩:=hN σ3 H3 n3
   exact⟨m',hm,σ3,H3,I3,w3⟩
  | brk=>exact q3
  | ret v=>exact q3
 | false =>
  rw[if_neg Bool.false_ne_true]
  exact wpAny_execs_nil ⟨σ1,H2,I2,q2⟩
end
structure It where
 go:Nat→Hp→Prop
 yld:Nat→Hp→V→Hp→Prop
 stop:Nat→Hp→Prop
def FpOk (X:Cx)(pins:List (Addr×Obj))(H:Hp)(b:Addr):Prop :=
 H b=none∧b≠X.env.locals∧b∉X.fs∧(b∈X.ex∨X.s₀.heap.objs.size≤b)∧(∀x c,X.env.cells.lookup x=some c→c≠b)∧∀p∈X.pn++pins,p.1≠b
theorem Inv.fpOk {X:Cx}{pins:List (Addr×Obj)}{σ:St}{H H':Hp}{s:Shared}{b:Addr}(I:Inv X pins σ H s)(hb:s.heap.objs.size≤b)(hn:H' b=none):FpOk X pins H' b:=by
 refine⟨hn,Nat.ne_of_gt (Nat.lt_of_lt_of_le I.lt hb),I.nofs hb,.inr (Nat.le_trans I.sz hb),fun x c e z=>?_,fun p hp z=>?_⟩
 ·obtain⟨v,q⟩:=I.cell x c e
  exact absurd (Nat.lt_of_lt_of_le q.lt (by rw[z];exact hb)) (Nat.lt_irrefl _)
 ·exact absurd (Nat.lt_of_lt_of_le (Heap.lt_size (I.pin p hp).1) (by rw[z];exact hb)) (Nat.lt_irrefl _)
structure Turn (P:Program)(w:World)(K:PySem.W.Frag)(tg:Expr)(J:It)(fp:List Addr)(it:Addr)(tn:Nat→Heap→Prop):Prop where
 mem:it∈fp
 obj:∀i h,tn i h→∀b∈fp,∃o,h.get? b=some o∧∀v,o.data≠.cell v
 keep:∀i h h',tn i h→(∀b∈fp,∀o,h.get? b=some o→h'.get? b=some o)→tn i h'
 item:∀(X:Cx),X.prog=P→X.w=w→X.K=K→X.calm=true→∀(i:Nat) (pins:List (Addr×Obj)) (s:Shared) (σ:St) (H:Hp) (E:Value→Shared→Prop),Inv X pins σ H s→(∀b∈fp,FpOk X pins H b)→tn i s.heap→J.go i H →
  wpAny (model P w) X.A (pyNext (.ref it)) (fun r s1=>∃u,r=some u ∧
   wpAny (model P w) X.A (letOwnedTupleGo tg (.ref it) u) (fun _ s2=>∃x H',Inv X pins σ H' s2∧RelV x u∧J.yld i H x H'∧tn (i+1) s2.heap∧∀b∈fp,H' b=none) E s1) E s
 done:∀(X:Cx),X.prog=P→X.w=w→X.K=K→X.calm=true→∀(i:Nat) (pins:List (Addr×Obj)) (s:Shared) (σ:St) (H:Hp) (E:Value→Shared→Prop),Inv X pins σ H s→(∀b∈fp,FpOk X pins H b)→tn i s.heap→J.stop i H →
  wpAny (model P w) X.A (pyNext (.ref it)) (fun r s1=>r=none∧Inv X pins σ H s1) E s
 self:∀(A:Around) (i:Nat) (s:Shared) (Q:Value→Shared→Prop) (E:Value→Shared→Prop),tn i s.heap→Q (.ref it) s→wpAny (model P w) A (pyIter (.ref it)) Q E s
abbrev TI:=St→Hp→(It→Hp→Prop)→Prop
inductive PIE (X:Cx)(pins:List (Addr×Obj))(σ:St)(tg:Expr)(R:It→Hp→Prop)(itv:Value)(s2:Shared):Prop
 | mk (it:Addr) (fp:List Addr) (tn:Nat→Heap→Prop) (J:It) (H':Hp) (e:itv=.ref it) (I:Inv X pins σ H' s2) (T:Turn X.prog X.w X.K tg J fp it tn) (z:tn 0 s2.heap) (f:(∀b∈fp,FpOk X pins H' b)) (q:R J H')
def PI (X:Cx)(tg iter:Expr)(wi:TI):Prop :=
 ∀ (pins:List (Addr×Obj)) (s:Shared) (σ:St) (H:Hp) (R:It→Hp→Prop),Inv X pins σ H s→wi σ H R →
  wpAny (model X.prog X.w) X.A (eval iter X.env) (fun v s1=>wpAny (model X.prog X.w) X.A (pyIter v) (PIE X pins σ tg R) X.xe s1) X.xe s
theorem go_of {M:Model}{A:Around}{E:Value→Shared→Prop}{s:Shared}{tg:Expr}{it:Addr}{u:Value}{o:Obj}{n:String}{vs:Array Value}{Q:Unit→Shared→Prop}(ho:s.heap.get? it=some o)(hc:o.cls=.type n)(hd:o.data=.fields vs)
  (hn:["enumerate", "zip", "dict_itemiterator", "dict_reverseitemiterator", "odict_iterator", "itertools.zip_longest", "itertools.pairwise"].contains n=false) (hQ:Q () s):wpAny M A (letOwnedTupleGo tg (.ref it) u) Q E s:=by
 unfold letOwnedTupleGo
 cases tg <;>first
  | exact wpAny_pure hQ
  | (cases u <;>first
    | exact wpAny_pure hQ
    | (refine wpAny_bind (wpAny_load ho ?_)
       rw[hc,hd]
       show wpAny M A (if (["enumerate", "zip", "dict_itemiterator", "dict_reverseitemiterator", "odict_iterator", "itertools.zip_longest", "itertools.pairwise"].contains n&&vs[0]? == some (rawInt _))=true then _ else _) Q E s
       rw[if_neg (by intro h;rw[hn,Bool.false_and] at h;cases h)]
       exact wpAny_pure hQ))
def Itl (K:PySem.W.Frag)(a:Addr):It :=
 ⟨fun i H=>∃xs x,SqL K H a xs∧xs[i]? = some x,fun i H x H'=>H'=H∧∀xs,SqL K H a xs→xs[i]? = some x,fun i H=>∃xs,SqL K H a xs∧xs.length≤i⟩
def Itt (K:PySem.W.Frag)(a:Addr):It :=
 ⟨fun i H=>∃xs x,SqT K H a xs∧xs[i]? = some x,fun i H x H'=>H'=H∧∀xs,SqT K H a xs→xs[i]? = some x,fun i H=>∃xs,SqT K H a xs∧xs.length≤i⟩
def Itr (lo:Int)(n:Nat):It:=⟨fun i _=>i<n,fun i H x H'=>H'=H∧x=.int (lo+i),fun i _=>n≤i⟩
theorem turn_list {P:Program}{w:World}{K:PySem.W.Frag}{tg:Expr}(a it:Addr):Turn P w K tg (Itl K a) [it] it (fun i h=>h.IsListIter it a i) where
 mem:=by simp
 obj:=fun i h st b hb=>by
  have e:b=it:=by simpa using hb
  subst e
  obtain⟨o,e,c,d⟩:=st
  exact⟨o,e,fun v z=>by rw[d] at z;cases z⟩
 keep:=fun i h h' st k=>st.at fun o e=>k it (by simp) o e
 item:=by
  intro X hP hw hK hc i pins s σ H E I hf st hg
  subst hP hw hK
  obtain⟨xs,x,hq,hx⟩:=hg
  obtain⟨its,rv,p,hz⟩:=I.list hq
  obtain⟨u,hu,ru⟩:=rv.get hx
  obtain⟨f0,f1,f2,f3,f4,f5⟩:=hf it (by simp)
  refine wpAny_pyNext_list_item st p.isList (x:=u) (by simpa using hu) fun h' st' sb=>?_
  have I1:Inv X pins σ H {s with heap:=h'}:=I.turned (t':=s.toks) (fun b o hb e=>(sb.2 b hb).trans e) f0 f1 f3 f4 f5
  obtain⟨o,e,c,d⟩:=id st'
  exact⟨u,rfl,go_of (s:={s with heap:=h'}) e c d (by decide) ⟨x,H,I1,ru,⟨rfl,fun ys hy=>by rw[I.list_inj hy hq];exact hx⟩,st',fun b hb=>(hf b hb).1⟩⟩
 done:=by
  intro X hP hw hK hc i pins s σ H E I hf st hg
  subst hP hw hK
  obtain⟨xs,hq,hx⟩:=hg
  obtain⟨its,rv,p,hz⟩:=I.list hq
  obtain⟨f0,f1,f2,f3,f4,f5⟩:=hf it (by simp)
  have hl:=rv.length
  exact wpAny_pyNext_list_end (I.ok.hd hc) st p.isList (by simp;omega) fun h' eb=>⟨rfl,I.turned (t':=s.toks) (fun b o hb e=>eb b o hb e) f0 f1 f3 f4 f5⟩
 self:=fun _ _ _ _ _ st h=>wpAny_pyIter_listiter st h
theorem turn_tuple {P:Program}{w:World}{K:PySem.W.Frag}{tg:Expr}(a it:Addr):Turn P w K tg (Itt K a) [it] it (fun i h=>h.IsTupleIter it a i) where
 mem:=by simp
 obj:=fun i h st b hb=>by
  have e:b=it:=by simpa using hb
  subst e
  obtain⟨o,e,c,d⟩:=st
  exact⟨o,e,fun v z=>by rw[d] at z;cases z⟩
 keep:=fun i h h' st k=>st.at fun o e=>k it (by simp) o e
 item:=by
  intro X hP hw hK hc i pins s σ H E I hf st hg
  subst hP hw hK
  obtain⟨xs,x,hq,hx⟩:=hg
  obtain⟨its,rv,p,hz⟩:=I.tuple hq
  obtain⟨u,hu,ru⟩:=rv.get hx
  obtain⟨f0,f1,f2,f3,f4,f5⟩:=hf it (by simp)
  refine wpAny_pyNext_tuple_item st (show s.heap.IsTuple a its.toArray from p) (x:=u) (by simpa using hu) fun h' st' sb=>?_
  have I1:Inv X pins σ H {s with heap:=h'}:=I.turned (t':=s.toks) (fun b o hb e=>(sb.2 b hb).trans e) f0 f1 f3 f4 f5
  obtain⟨o,e,c,d⟩:=id st'
  exact⟨u,rfl,go_of (s:={s with heap:=h'}) e c d (by decide) ⟨x,H,I1,ru,⟨rfl,fun ys hy=>by rw[I.tuple_inj hy hq];exact hx⟩,st',fun b hb=>(hf b hb).1⟩⟩
 done:=by
  intro X hP hw hK hc i pins s σ H E I hf st hg
  subst hP hw hK
  obtain⟨xs,hq,hx⟩:=hg
  obtain⟨its,rv,p,hz⟩:=I.tuple hq
  obtain⟨f0,f1,f2,f3,f4,f5⟩:=hf it (by simp)
  have hl:=rv.length
  exact wpAny_pyNext_tuple_end (I.ok.hd hc) st (show s.heap.IsTuple a its.toArray from p) (by simp;omega) fun h' eb=>⟨rfl,I.turned (t':=s.toks) (fun b o hb e=>eb b o hb e) f0 f1 f3 f4 f5⟩
 self:=fun _ _ _ _ _ st h=>wpAny_pyIter_tupleiter st h
theorem turn_range {P:Program}{w:World}{K:PySem.W.Frag}{tg:Expr}(it:Addr)(lo:Int)(n:Nat):Turn P w K tg (Itr lo n) [it] it (fun i h=>IsRangeIter h it (lo+(i:Nat)*1) ((n:Int) - (i:Nat)) 1) where
 mem:=by simp
 obj:=fun i h st b hb=>by
  have e:b=it:=by simpa using hb
  subst e
  exact ⟨_,st,fun v z=>by
   have z':Data.fields _=Data.cell v:=z
   cases z'⟩
 keep:=fun i h h' st k=>k it (by simp) _ st
 item:=by
  intro X hP hw hK hc i pins s σ H E I hf st hg
  subst hP hw hK
  obtain⟨f0,f1,f2,f3,f4,f5⟩:=hf it (by simp)
  have W:=Walks.range (prog:=X.prog) (w:=X.w) (I.ok.hd hc) it lo 1 n
  refine W.item i s _ _ hg st fun v h' tk hv st' kk=>?_
  obtain⟨t,rfl⟩:=hv
  have I1:Inv X pins σ H {s with heap:=h',toks:=tk}:=I.turned (fun b o hb e=>kk b o (by simpa using hb) e) f0 f1 f3 f4 f5
  refine⟨_,rfl,go_of (s:={s with heap:=h',toks:=tk}) (n := "range_iterator") st' rfl rfl (by decide) ⟨.int (lo+i),H,I1,⟨t,?_⟩,⟨rfl,rfl⟩,st',fun b hb=>(hf b hb).1⟩⟩
  rw[Int.mul_one]
 done:=by
  intro X hP hw hK hc i pins s σ H E I hf st hg
  subst hP hw hK
  obtain⟨f0,f1,f2,f3,f4,f5⟩:=hf it (by simp)
  exact wpAny_pyNext_range_end (I.ok.hd hc) st (by have:n≤i:=hg;omega) fun h' eb=>⟨rfl,I.turned (t':=s.toks) (fun b o hb e=>eb b o hb e) f0 f1 f3 f4 f5⟩
 self:=fun _ _ _ _ _ st h=>wpAny_pyIter_rangeiter st h
end L2
namespace L2
open PySem PySem.Spec PyProof.Rows
section
variable {X:Cx}{tg:Expr}
def iList (K:PySem.W.Frag)(tl:TE):TI:=fun σ H R=>tl σ H fun x H1=>∃a,x=.ref a∧(∃xs,SqL K H1 a xs)∧R (Itl K a) H1
def iTup (K:PySem.W.Frag)(tl:TE):TI:=fun σ H R=>tl σ H fun x H1=>∃a,x=.ref a∧(∃xs,SqT K H1 a xs)∧R (Itt K a) H1
theorem pi_list {l:Expr}{tl:TE}(hl:PE X l tl):PI X tg l (iList X.K tl):=by
 intro pins s σ H R I h
 refine thn (hl pins s σ H _ I h) fun v s1 hq12=>?_
 obtain⟨x,H1,I1,r1,q1⟩:=hq12
 obtain⟨a,e,⟨xs,hq⟩,q⟩:=q1
 subst e
 cases r1
 obtain⟨its,rv,p,hz⟩:=I1.list hq
 refine wpAny_pyIter_list p.isList ?_
 refine⟨s1.heap.objs.size,[s1.heap.objs.size],_,_,H1,rfl,I1.kept (t':=s1.toks) fun b o e=>Heap.get?_push_of_some _ e,turn_list a _,⟨_,Heap.get?_push_size _ rfl,rfl,rfl⟩,fun b hb=>?_,q⟩
 have e:b=s1.heap.objs.size:=by simpa using hb
 subst e
 exact I1.fpOk (Nat.le_refl _) (I1.hok.fresh (Nat.le_refl _))
theorem pi_tup {l:Expr}{tl:TE}(hl:PE X l tl):PI X tg l (iTup X.K tl):=by
 intro pins s σ H R I h
 refine thn (hl pins s σ H _ I h) fun v s1 hq13=>?_
 obtain⟨x,H1,I1,r1,q1⟩:=hq13
 obtain⟨a,e,⟨xs,hq⟩,q⟩:=q1
 subst e
 cases r1
 obtain⟨its,rv,p,hz⟩:=I1.tuple hq
 refine wpAny_pyIter_tuple (show s1.heap.IsTuple a its.toArray from p) ?_
 refine⟨s1.heap.objs.size,[s1.heap.objs.size],_,_,H1,rfl,I1.kept (t':=s1.toks) fun b o e=>Heap.get?_push_of_some _ e,turn_tuple a _,⟨_,Heap.get?_push_size _ rfl,rfl,rfl⟩,fun b hb=>?_,q⟩
 have e:b=s1.heap.objs.size:=by simpa using hb
 subst e
 exact I1.fpOk (Nat.le_refl _) (I1.hok.fresh (Nat.le_refl _))
theorem range_it {pins:List (Addr×Obj)}{σ:St}{H:Hp}{s:Shared}{R:It→Hp→Prop}{E:Value→Shared→Prop}{lo hi:Int}{t u v:Tok}{tk:Nat}(I:Inv X pins σ H s)(h1:-(2 ^ 62)≤lo)(h2:lo<2 ^ 62)(h3:-(2 ^ 62)≤hi)(h4:hi<2 ^ 62)
  (q:R (Itr lo (hi - lo).toNat) H):wpAny (model X.prog X.w) X.A (pyIter (.ref s.heap.objs.size)) (PIE X pins σ tg R) E {s with heap:=s.heap.push {cls:=.type "range", data:=.fields #[.int lo t,.int hi u,.int 1 v]},toks:=tk}:=by
 refine wpAny_pyIter_range (IsRange.new ..) (small_one h1 h2 h3 h4) ?_
 have I1:Inv X pins σ H {s with heap:=s.heap.push {cls:=.type "range", data:=.fields #[.int lo t,.int hi u,.int 1 v]},toks:=tk}:=I.kept fun b o e=>Heap.get?_push_of_some _ e
 refine ⟨(s.heap.push {cls:=.type "range", data:=.fields #[.int lo t,.int hi u,.int 1 v]}).objs.size,[(s.heap.push {cls:=.type "range", data:=.fields #[.int lo t,.int hi u,.int 1 v]}).objs.size],_,_,H,rfl,
  I1.kept (t':=tk) fun b o e=>Heap.get?_push_of_some _ e,turn_range _ lo (hi - lo).toNat,?_,fun b hb=>?_,q⟩
 ·have e1:lo+((0:Nat):Int)*1=lo:=by simp
  have e2:(((hi - lo).toNat:Nat):Int) - ((0:Nat):Int)=Builtin.Range.rangeSize lo hi 1:=by rw[rangeSize_one];split <;>omega
  show IsRangeIter _ _ (lo+((0:Nat):Int)*1) ((((hi - lo).toNat:Nat):Int) - ((0:Nat):Int)) 1
  rw[e1,e2]
  exact Heap.get?_push_size _ rfl
 ·have e:b=(s.heap.push {cls:=.type "range", data:=.fields #[.int lo t,.int hi u,.int 1 v]}).objs.size:=by simpa using hb
  subst e
  exact I1.fpOk (Nat.le_refl _) (I1.hok.fresh (Nat.le_refl _))
def iRng1 (ta:TA):TI:=fun σ H R=>ta σ H fun vs H1=>∃j:Int,vs=[.int j]∧-(2 ^ 62)≤j∧j<2 ^ 62∧R (Itr 0 j.toNat) H1
theorem pi_range1 {a:Expr}{ta:TA}{p pos:Pos}(hg:Gl X "range")(hm:X.mg "range" = none)(ha:PA X [a] ta)(hs:starEach [a] X.env=[(false,eval a X.env)]:=by rfl):PI X tg (.Call (.Name "range" p) [a] [] pos) (iRng1 ta):=by
 intro pins s σ H R I h
 refine Call_ (ld_blt I hg hm boot_range (PyProof.Rows.callWith_type1 (thn (ha pos pins s σ H _ I h) fun us s1 ⟨vs,H1,I1,r1,q1⟩=>?_) hs rfl))
 obtain⟨j,e,q1,q2,q⟩:=q1
 subst e
 cases r1 with
 | cons r rr =>
  cases rr
  obtain⟨t,rfl⟩:=r
  exact call_range_1 (range_it I1 (by omega) (by omega) q1 q2 (by simpa using q))
def tFor (wi:TI)(g:TG)(tb:TS):TS:=fun D σ H=>wi σ H fun J H1=>∃W:Nat→Nat→St→Hp→Prop,(∃m,W 0 m σ H1)∧∀i m σ H,W i m σ H →
 (J.stop i H∧D.nx σ H)∨(J.go i H∧∃N:St→Hp→Prop,(∀σ' H',N σ' H'→∃m',m'<m∧W (i+1) m' σ' H')∧∀x H',J.yld i H x H'→g x σ H' fun σ2 H2=>tb {D with nx:=N,ct:=N,bk:=D.nx} σ2 H2)
def pinsAt (fp:List Addr)(h:Heap):List (Addr×Obj):=fp.filterMap fun b=>(h.get? b).map fun o=>(b,o)
theorem mem_pinsAt {fp:List Addr}{h:Heap}{b:Addr}{o:Obj}(hb:b∈fp)(e:h.get? b=some o):(b,o)∈pinsAt fp h:=List.mem_filterMap.mpr ⟨b,hb,by rw[e];rfl⟩
theorem of_pinsAt {fp:List Addr}{h:Heap}{p:Addr×Obj}(hp:p∈pinsAt fp h):p.1∈fp∧h.get? p.1=some p.2:=by
 obtain⟨b,hb,e⟩:=List.mem_filterMap.mp hp
 cases q:h.get? b with
 | none=>rw[q] at e;cases e
 | some o =>
  rw[q] at e
  have e':(b,o)=p:=Option.some.inj e
  subst e'
  exact⟨hb,q⟩
theorem Inv.pinned {pins:List (Addr×Obj)}{σ:St}{H:Hp}{s:Shared}{fp:List Addr}(I:Inv X pins σ H s)(hf:∀b∈fp,FpOk X pins H b)(ho:∀b∈fp,∃o,s.heap.get? b=some o∧∀v,o.data≠.cell v):Inv X (pins++pinsAt fp s.heap) σ H s :=
 I.pins_of fun p hp=>(List.mem_append.mp hp).elim (fun z=>I.pin p (List.mem_append_right _ z)) fun z=>by
  obtain⟨hb,e⟩:=of_pinsAt z
  obtain⟨f0,f1,f2,_⟩:=hf p.1 hb
  obtain⟨o,e',d⟩:=ho p.1 hb
  rw[e] at e';cases e'
  exact⟨e,f0,f1,f2,d⟩
theorem Inv.unpinned {pins pl:List (Addr×Obj)}{σ:St}{H:Hp}{s:Shared}(I:Inv X (pins++pl) σ H s):Inv X pins σ H s:=I.pins_of fun p hp=>I.pin p (List.mem_append_right _ (List.mem_append_left _ hp))
theorem ps_for {iter:Expr}{body:List Stmt}{wi:TI}{g:TG}{tb:TS}{pos:Pos}(hp:PassesOwn (model X.prog X.w) X.A X.env X.xe)(hc:X.calm=true)(hi:PI X tg iter wi)(hg:PG X tg g)(hb:PSs X body tb)
  (hs:∀x,foldedSetIterable iter X.env x=pure x:=by intro _;rfl):PS X (.For tg iter body [] pos) (tFor wi g tb):=by
 intro pins s σ H D I h
 refine wpAny_For (thn (hi pins s σ H _ I h) fun v s1 h1=>thn h1 fun itv s2 h2=>?_) hs
 obtain⟨it,fp,tn,J,H2,e,I2,T,st2,f2,W,⟨m0,w0⟩,turn⟩:=h2
 subst e
 have stat:∀{H':Hp},(∀b∈fp,H' b=none)→∀b∈fp,FpOk X pins H' b:=fun hn b hb=>⟨hn b hb,(f2 b hb).2⟩
 refine codeAny_forLoop_any (fun n s'=>∃i σ' H',Inv X pins σ' H' s'∧tn i s'.heap∧(∀b∈fp,H' b=none)∧W i n σ' H') ?_ m0 ⟨0,σ,H2,I2,st2,fun b hb=>(f2 b hb).1,w0⟩
 rintro n s3 ⟨i,σ3,H3,I3,st3,fr3,w3⟩
 rcases turn i n σ3 H3 w3 with⟨stop,qn⟩|⟨go,N,hN,step⟩
 ·refine wpAny_passesOwn hp (thn (T.done X rfl rfl rfl hc i pins s3 σ3 H3 X.xe I3 (stat fr3) st3 stop) fun r s4 hq14=>?_)
  obtain⟨hr,I4⟩:=hq14
  subst hr
  exact wpAny_execs_nil ⟨σ3,H3,I4,qn⟩
 ·refine wpAny_passesOwn hp (thn (T.item X rfl rfl rfl hc i pins s3 σ3 H3 X.xe I3 (stat fr3) st3 go) fun r s4 hq15=>?_)
  obtain⟨u,hr,h4⟩:=hq15
  subst hr
  refine wpAny_passesOwn hp (thn h4 fun _ s5 hq16=>?_)
  obtain⟨x,H5,I5,r5,y5,st5,fr5⟩:=hq16
  have I5':=I5.pinned (stat fr5) (T.obj _ _ st5)
  refine wpAny_passesOwn hp (thn (hg _ s5 σ3 H5 x u _ I5' r5 (step x H5 y5)) fun _ s6 hq17=>?_)
  obtain⟨σ6,H6,I6,q6⟩:=hq17
  refine wpAny_passesOwn hp (thn (hb _ s6 σ6 H6 _ I6 q6) fun f s7 q7=>?_)
  have again:∀{σ7:St}{H7:Hp},Inv X (pins++pinsAt fp s5.heap) σ7 H7 s7→N σ7 H7→∃m,m<n∧∃i σ' H',Inv X pins σ' H' s7∧tn i s7.heap∧(∀b∈fp,H' b=none)∧W i m σ' H':=fun {σ7 H7} I7 n7=>by
   obtain⟨m',hm,w7⟩:=hN σ7 H7 n7
   refine⟨m',hm,i+1,σ7,H7,I7.unpinned,T.keep _ _ _ st5 fun b hb o e=>(I7.pin (b,o) (List.mem_append_right _ (List.mem_append_right _ (mem_pinsAt hb e)))).1,fun b hb=>?_,w7⟩
   obtain⟨o,e,d⟩:=T.obj _ _ st5 b hb
   exact(I7.pin (b,o) (List.mem_append_right _ (List.mem_append_right _ (mem_pinsAt hb e)))).2.1
  cases f with
  | next=>obtain⟨σ7,H7,I7,n7⟩:=q7;exact again I7 n7
  | cont=>obtain⟨σ7,H7,I7,n7⟩:=q7;exact again I7 n7
  | brk=>obtain⟨σ7,H7,I7,q7⟩:=q7;exact⟨σ7,H7,I7.unpinned,q7⟩
  | ret v=>obtain⟨x7,σ7,H7,I7,r7,q7⟩:=q7;exact⟨x7,σ7,H7,I7.unpinned,r7,q7⟩
end
end L2
namespace L2
open PySem PySem.Spec PyProof.Rows
abbrev R2:=V→V→Hp→VK→Prop
def OpR (X:Cx)(f:Value→Value→Sem Value)(r:R2):Prop :=
 ∀ (pins:List (Addr×Obj)) (s:Shared) (σ:St) (H:Hp) (x y:V) (v u:Value) (Q:VK),Inv X pins σ H s→RelV x v→RelV y u→r x y H Q →
  wpAny (model X.prog X.w) X.A (f v u) (EP X pins σ Q) X.xe s
def UnR (X:Cx)(f:Value→Sem Value)(r:V→Hp→VK→Prop):Prop :=
 ∀ (pins:List (Addr×Obj)) (s:Shared) (σ:St) (H:Hp) (x:V) (v:Value) (Q:VK),Inv X pins σ H s→RelV x v→r x H Q →
  wpAny (model X.prog X.w) X.A (f v) (EP X pins σ Q) X.xe s
def CallR (X:Cx)(f:Value)(r:List V→Hp→VK→Prop):Prop :=
 ∀ (pins:List (Addr×Obj)) (s:Shared) (σ:St) (H:Hp) (xs:List V) (us:List Value) (Q:VK),Inv X pins σ H s→Vals xs us→r xs H Q →
  wpAny (model X.prog X.w) X.A (call f us) (EP X pins σ Q) X.xe s
def tOp (r:R2)(ta tb:TE):TE:=fun σ H Q=>ta σ H fun x H1=>tb σ H1 fun y H2=>r x y H2 Q
def tUn (r:V→Hp→VK→Prop)(ta:TE):TE:=fun σ H Q=>ta σ H fun x H1=>r x H1 Q
def rI (C:Int→Int→Prop)(g:Int→Int→V):R2:=fun x y H Q=>∃i j,x=.int i∧y=.int j∧C i j∧Q (g i j) H
def rI0 (g:Int→Int→V):R2:=fun x y H Q=>∃i j,x=.int i∧y=.int j∧Q (g i j) H
def rU (g:Int→V):V→Hp→VK→Prop:=fun x H Q=>∃i,x=.int i∧Q (g i) H
section
variable {X:Cx}{a b c:Expr}{ta tb tc:TE}{pos:Pos}
theorem binT (ha:PE X a ta)(hb:PE X b tb){pins:List (Addr×Obj)}{s:Shared}{σ:St}{H:Hp}{R:V→V→Hp→Prop}(I:Inv X pins σ H s)
  (h:ta σ H fun x H1=>tb σ H1 fun y H2=>R x y H2) {Q:Value→Shared→Prop}{f:Value→Value→Sem Value}
  (hf:∀v u s2 x y H2,Inv X pins σ H2 s2→RelV x v→RelV y u→R x y H2→wpAny (model X.prog X.w) X.A (f v u) Q X.xe s2) :
  wpAny (model X.prog X.w) X.A (eval a X.env) (fun v s₁=>wpAny (model X.prog X.w) X.A (eval b X.env) (fun u s₂=>wpAny (model X.prog X.w) X.A (f v u) Q X.xe s₂) X.xe s₁) X.xe s:=by
 refine thn (ha pins s σ H _ I h) fun v s1 hq18=>?_
 obtain⟨x,H1,I1,r1,q1⟩:=hq18
 refine thn (hb pins s1 σ H1 _ I1 q1) fun u s2 hq19=>?_
 obtain⟨y,H2,I2,r2,q2⟩:=hq19
 exact hf v u s2 x y H2 I2 r1 r2 q2
theorem pe_op {op:Operator}{r:R2}(ho:OpR X (binaryOp op) r)(ha:PE X a ta)(hb:PE X b tb):PE X (.BinOp a op b pos) (tOp r ta tb):=by
 intro pins s σ H Q I h
 exact wpAny_BinOp (binT ha hb I h fun v u s2 x y H2 I2 rx ry q=>ho pins s2 σ H2 x y v u Q I2 rx ry q)
theorem pe_un {op:UnaryOp}{r:V→Hp→VK→Prop}(ho:UnR X (unaryOp op) r)(ha:PE X a ta):PE X (.UnaryOp op a pos) (tUn r ta):=by
 intro pins s σ H Q I h
 exact UnaryOp_ (thn (ha pins s σ H _ I h) fun v s1 ⟨x,H1,I1,r1,q1⟩=>ho pins s1 σ H1 x v Q I1 r1 q1)
theorem opI {f:Value→Value→Sem Value}{C:Int→Int→Prop}{g:Int→Int→Int}
  (rule:∀(i j:Int) (t u:Tok) (s:Shared) (Q:Value→Shared→Prop) (E:Value→Shared→Prop),C i j→Q (.int (g i j) s.toks) {s with toks:=s.toks+1}→wpAny (model X.prog X.w) X.A (f (.int i t) (.int j u)) Q E s) :
  OpR X f (rI C fun i j=>.int (g i j)):=by
 intro pins s σ H x y v u Q I rx ry h
 obtain⟨i,j,rfl,rfl,hc,q⟩:=h
 obtain⟨t,rfl⟩:=rx
 obtain⟨t',rfl⟩:=ry
 exact rule i j t t' s _ _ hc ⟨.int (g i j),H,I.tok _,⟨_,rfl⟩,q⟩
theorem opI0 {f:Value→Value→Sem Value}{g:Int→Int→Int}
  (rule:∀(i j:Int) (t u:Tok) (s:Shared) (Q:Value→Shared→Prop) (E:Value→Shared→Prop),Q (.int (g i j) s.toks) {s with toks:=s.toks+1}→wpAny (model X.prog X.w) X.A (f (.int i t) (.int j u)) Q E s) :
  OpR X f (rI0 fun i j=>.int (g i j)):=by
 intro pins s σ H x y v u Q I rx ry h
 obtain⟨i,j,rfl,rfl,q⟩:=h
 obtain⟨t,rfl⟩:=rx
 obtain⟨t',rfl⟩:=ry
 exact rule i j t t' s _ _ ⟨.int (g i j),H,I.tok _,⟨_,rfl⟩,q⟩
theorem opB0 {f:Value→Value→Sem Value}{g:Int→Int→Bool}
  (rule:∀(i j:Int) (t u:Tok) (s:Shared) (Q:Value→Shared→Prop) (E:Value→Shared→Prop),Q (.bool (g i j)) s→wpAny (model X.prog X.w) X.A (f (.int i t) (.int j u)) Q E s) :
  OpR X f (rI0 fun i j=>.bl (g i j)):=by
 intro pins s σ H x y v u Q I rx ry h
 obtain⟨i,j,rfl,rfl,q⟩:=h
 obtain⟨t,rfl⟩:=rx
 obtain⟨t',rfl⟩:=ry
 exact rule i j t t' s _ _ ⟨.bl (g i j),H,I,rfl,q⟩
def CMul (i j:Int):Prop:=(-(2 ^ 64)<i∧i<2 ^ 64)∨(-(2 ^ 64)<j∧j<2 ^ 64)
theorem CMul.ok {i j:Int}(h:CMul i j):IntMulOk i j:=by
 rcases h with⟨h1,h2⟩|⟨h1,h2⟩
 ·exact .of_left (intBits_le_64 h1 h2)
 ·exact .of_right (intBits_le_64 h1 h2)
theorem op_add:OpR X (binaryOp .Add) (rI0 fun i j=>.int (i+j)):=opI0 fun _ _ _ _ _ _ _ q=>add_int q
theorem op_sub:OpR X (binaryOp .Sub) (rI0 fun i j=>.int (i - j)):=opI0 fun _ _ _ _ _ _ _ q=>sub_int q
theorem op_mod:OpR X (binaryOp .Mod) (rI (fun _ j=>0<j) fun i j=>.int (i % j)):=opI fun i j _ _ _ _ _ hc q=>by
 have h1:(0:Int)<j:=hc
 exact mod_int' (by omega) (by rw[Int.fmod_eq_emod_of_nonneg i (by omega)];exact q)
theorem unI {f:Value→Sem Value}{g:Int→Int}
  (rule:∀(i:Int) (t:Tok) (s:Shared) (Q:Value→Shared→Prop) (E:Value→Shared→Prop),Q (.int (g i) s.toks) {s with toks:=s.toks+1}→wpAny (model X.prog X.w) X.A (f (.int i t)) Q E s) :
  UnR X f (rU fun i=>.int (g i)):=by
 intro pins s σ H x v Q I rx h
 obtain⟨i,rfl,q⟩:=h
 obtain⟨t,rfl⟩:=rx
 exact rule i t s _ _ ⟨.int (g i),H,I.tok _,⟨_,rfl⟩,q⟩
theorem un_neg:UnR X (unaryOp .USub) (rU fun i=>.int (-i)):=unI fun _ _ _ _ _ q=>neg_int q
end
section
variable {X:Cx}{a b c:Expr}{ta tb tc:TE}{pos:Pos}
theorem fin_bl {pins:List (Addr×Obj)}{σ:St}{H:Hp}{s:Shared}{Q:VK}{k k':Bool}(I:Inv X pins σ H s)(q:Q (.bl k) H)(e:k=k'):EP X pins σ Q (.bool k') s:=by
 subst e
 exact⟨.bl k,H,I,rfl,q⟩
theorem op_lt:OpR X (compareOp .Lt) (rI0 fun i j=>.bl (decide (i<j))):=opB0 fun _ _ _ _ _ _ _ q=>lt_int q
theorem op_le:OpR X (compareOp .LtE) (rI0 fun i j=>.bl (decide (i≤j))):=opB0 fun _ _ _ _ _ _ _ q=>le_int q
theorem op_gt:OpR X (compareOp .Gt) (rI0 fun i j=>.bl (decide (j<i))):=opB0 fun _ _ _ _ _ _ _ q=>gt_int q
theorem op_lt_str:OpR X (compareOp .Lt) (fun x y H Q=>∃i j,x=.str i∧y=.str j∧Q (.bl (decide (i.cps.toList<j.cps.toList))) H):=by
 intro pins s σ H x y v u Q I rx ry h
 obtain⟨i,j,rfl,rfl,q⟩:=h
 obtain⟨t,rfl⟩:=rx
 obtain⟨t',rfl⟩:=ry
 exact lt_str (fin_bl I q rfl)
theorem yO (b:Expr){op:CmpOp}(h:op≠.In:=by decide)(h2:op≠.NotIn:=by decide):behindInMarks op b=false:=by
 have e1:(op == CmpOp.In)=false:=by cases op <;>first|rfl|exact absurd rfl h
 have e2:(op == CmpOp.NotIn)=false:=by cases op <;>first|rfl|exact absurd rfl h2
 cases b <;>simp[behindInMarks,e1,e2]
theorem pe_cmpR {op:CmpOp}{r:R2}(ho:OpR X (compareOp op) r)(ha:PE X a ta)(hb:PE X b tb)(hm:behindInMarks op b=false):PE X (.Compare a [op] [b] pos) (tOp r ta tb):=by
 intro pins s σ H Q I h
 exact wpAny_Compare1 (binT ha hb I h fun v u s2 x y H2 I2 rx ry q=>ho pins s2 σ H2 x y v u Q I2 rx ry q) hm
def tTest (t:TE):TT:=fun σ H Q=>t σ H fun x H'=>∃k,x=.bl k∧Q k H'
theorem pt_cmpR {op:CmpOp}{r:R2}(ho:OpR X (compareOp op) r)(ha:PE X a ta)(hb:PE X b tb)(hm:behindInMarks op b=false):PT X (.Compare a [op] [b] pos) (tTest (tOp r ta tb)):=by
 intro pins s σ H Q I h
 refine wpAny_isTrue_Compare1 (thn (ha pins s σ H _ I h) fun v s1 ⟨x,H1,I1,r1,q1⟩=>thn (hb pins s1 σ H1 _ I1 q1) fun u s2 ⟨y,H2,I2,r2,q2⟩ =>
  thn (ho pins s2 σ H2 x y v u _ I2 r1 r2 q2) fun c s3 ⟨z,H3,I3,r3,k,e,q3⟩=>?_) hm
 subst e
 cases r3
 exact wpAny_truthy_bool ⟨H3,I3,q3⟩
def tChain (r r':R2)(ta tb tc:TE):TE:=fun σ H Q=>ta σ H fun x H1=>tb σ H1 fun y H2=>r x y H2 fun z H3=>∃k,z=.bl k ∧
 (if k=true then tc σ H3 fun w' H4=>r' y w' H4 Q else Q (.bl false) H3)
theorem pe_chain {op op':CmpOp}{r r':R2}(ho:OpR X (compareOp op) r)(ho':OpR X (compareOp op') r')(ha:PE X a ta)(hb:PE X b tb)(hc:PE X c tc)
  (hm:lastMarks [op,op'] [b,c]=false:=by with_unfolding_all rfl):PE X (.Compare a [op,op'] [b,c] pos) (tChain r r' ta tb tc):=by
 intro pins s σ H Q I h
 refine Compare_chain (thn (ha pins s σ H _ I h) fun v s1 ⟨x,H1,I1,r1,q1⟩=>chain_link (thn (hb pins s1 σ H1 _ I1 q1) fun u s2 ⟨y,H2,I2,r2,q2⟩ =>
  thn (ho pins s2 σ H2 x y v u _ I2 r1 r2 q2) fun d s3 ⟨z,H3,I3,r3,k,e,q3⟩=>?_)) hm
 subst e
 cases r3
 refine wpAny_truthy_bool ?_
 cases k with
 | false=>exact ite_ff ⟨.bl false,H3,I3,rfl,q3⟩
 | true=>exact ite_tt (chain_last (thn (hc pins s3 σ H3 _ I3 q3) fun w' s4 ⟨z',H4,I4,r4,q4⟩=>ho' pins s4 σ H4 y z' u w' Q I4 r2 r4 q4))
theorem pt_chain {op op':CmpOp}{r r':R2}(ho:OpR X (compareOp op) r)(ho':OpR X (compareOp op') r')(ha:PE X a ta)(hb:PE X b tb)(hc:PE X c tc)
  (hm:lastMarks [op,op'] [b,c]=false:=by with_unfolding_all rfl):PT X (.Compare a [op,op'] [b,c] pos) (tTest (tChain r r' ta tb tc)):=by
 intro pins s σ H Q I h
 refine isTrue_chain (thn (ha pins s σ H _ I h) fun v s1 ⟨x,H1,I1,r1,q1⟩=>test_link (thn (hb pins s1 σ H1 _ I1 q1) fun u s2 ⟨y,H2,I2,r2,q2⟩ =>
  thn (ho pins s2 σ H2 x y v u _ I2 r1 r2 q2) fun d s3 ⟨z,H3,I3,r3,k,e,q3⟩=>?_)) hm
 subst e
 cases r3
 refine wpAny_truthy_bool ?_
 cases k with
 | false =>
  obtain⟨k',e',q'⟩:=q3
  cases e'
  exact ite_ff ⟨H3,I3,q'⟩
 | true =>
  refine ite_tt (test_last (thn (hc pins s3 σ H3 _ I3 q3) fun w' s4 ⟨z',H4,I4,r4,q4⟩=>thn (ho' pins s4 σ H4 y z' u w' _ I4 r2 r4 q4) fun d' s5 hq20=>?_))
  obtain⟨z2,H5,I5,r5,k2,e2,q5⟩:=hq20
  subst e2
  cases r5
  exact wpAny_truthy_bool ⟨H5,I5,q5⟩
theorem line63:(sizeLine:Nat)<2 ^ 63:=by rw[sizeLine_eq];decide
theorem op_add_str:OpR X (binaryOp .Add) (fun x y H Q=>∃i j,x=.str i∧y=.str j∧i.length+j.length≤sizeLine∧Q (.str (i++j)) H):=by
 intro pins s σ H x y v u Q I rx ry h
 obtain⟨i,j,rfl,rfl,hz,q⟩:=h
 obtain⟨t,rfl⟩:=rx
 obtain⟨t',rfl⟩:=ry
 exact add_str (fun t' tk=>⟨.str (i++j),H,I.tok _,⟨_,rfl⟩,q⟩) hz
theorem vals1 {x:V}{us:List Value}(r:Vals [x] us):∃u,us=[u]∧RelV x u:=by
 cases r with
 | cons r1 r2=>cases r2;exact⟨_,rfl,r1⟩
theorem vals2 {x y:V}{us:List Value}(r:Vals [x,y] us):∃u w',us=[u,w']∧RelV x u∧RelV y w':=by
 cases r with
 | cons r1 r2 =>
  cases r2 with
  | cons r3 r4=>cases r4;exact⟨_,_,rfl,r1,r3⟩
theorem call_max2 (hc:X.calm=true):CallR X (.builtin "max") (fun xs H Q=>∃i j,xs=[.int i,.int j]∧Q (.int (if j > i then j else i)) H):=by
 intro pins s σ H xs us Q I r h
 obtain⟨i,j,rfl,q⟩:=h
 obtain⟨u,w',rfl,⟨t,rfl⟩,⟨t',rfl⟩⟩:=vals2 r
 refine max_two_ints (I.ok.hd hc) fun h' tk k=>⟨_,H,I.kept k,?_,q⟩
 by_cases hj:j > i
 ·rw[if_pos hj,if_pos hj];exact⟨_,rfl⟩
 ·rw[if_neg hj,if_neg hj];exact⟨_,rfl⟩
theorem call_str_int:CallR X (.type "str") (fun xs H Q=>∃i,xs=[.int i]∧i.natAbs.log2<1920∧Q (.str (toString i)) H):=by
 intro pins s σ H xs us Q I r h
 obtain⟨i,rfl,hz,q⟩:=h
 obtain⟨u,rfl,t,rfl⟩:=vals1 r
 exact PySem.P.str_of_int hz ⟨.str _,H,I.tok _,⟨_,rfl⟩,q⟩
def LenV (K:PySem.W.Frag)(x:V)(H:Hp)(n:Nat):Prop :=
 match x with
 | .str y=>y.length≤sizeLine∧n=y.length
 | .byt y=>y.size≤sizeLine∧n=y.size
 | .ref p=>(∃xs,SqL K H p xs∧n=xs.length)∨∃xs,SqT K H p xs∧n=xs.length
 | _=>False
theorem zY:CallR X (.builtin "len") (fun xs H Q=>∃x n,xs=[x]∧LenV X.K x H n∧Q (.int n) H):=by
 intro pins s σ H xs us Q I r h
 obtain⟨x,n,rfl,e,q⟩:=h
 obtain⟨u,rfl,rx⟩:=vals1 r
 have hl:=line63
 have hs:sizeLine=16777216:=sizeLine_eq
 cases x with
 | str y =>
  obtain⟨t,rfl⟩:=rx
  obtain⟨hy,e'⟩:y.length≤sizeLine∧n=y.length:=e
  subst e'
  exact len_str (by omega) ⟨.int _,H,I.tok _,⟨_,rfl⟩,q⟩
 | byt y =>
  obtain⟨t,rfl⟩:=rx
  obtain⟨hy,e'⟩:y.size≤sizeLine∧n=y.size:=e
  subst e'
  exact PySem.W.len_bytes (by omega) ⟨.int _,H,I.tok _,⟨_,rfl⟩,q⟩
 | ref p =>
  cases rx
  have e':(∃xs,SqL X.K H p xs∧n=xs.length)∨∃xs,SqT X.K H p xs∧n=xs.length:=e
  rcases e' with⟨xs,hx,e'⟩|⟨xs,hx,e'⟩
  ·subst e'
   obtain⟨its,r',pl,hz⟩:=I.list hx
   have hlen:=r'.length
   exact Calls.call_len_list pl.isList (by simp only[List.size_toArray];omega) ⟨.int xs.length,H,I.tok _,⟨_,by simp only[List.size_toArray];rw[hlen]⟩,q⟩
  ·subst e'
   obtain⟨its,r',pl,hz⟩:=I.tuple hx
   have hlen:=r'.length
   exact len_tuple pl (by simp only[List.size_toArray];omega) ⟨.int xs.length,H,I.tok _,⟨_,by simp only[List.size_toArray];rw[hlen]⟩,q⟩
 | _=>exact(show False from e).elim
end
end L2
namespace L2
open PySem PySem.Spec PyProof.Rows
section
variable {prog:Program}{w:World}{A:Around}{E:Value→Shared→Prop}{s:Shared}{K:PySem.W.Frag}{x dx C f:Addr}{mA:Str→Option Value}{name:Str}{v:Value}
end
theorem RelO.some_of {v:V}{o:Option Value}(r:RelO (some v) o):∃u,o=some u∧RelV v u:=by
 cases o with
 | none=>exact(show False from r).elim
 | some u=>exact⟨u,rfl,r⟩
structure Cls (K:PySem.W.Frag)(C:Addr):Prop where
 pg:PySem.W.plainGet K C Str.empty=true
 hd:PySem.W.hasDictIn K C=true
 po:PySem.W.plainOver K C=true
 sa:PySem.W.findIn K (.ref C) "__setattr__" = some (some (.builtin "object.__setattr__"))
theorem Cls.get {K:PySem.W.Frag}{C:Addr}(c:Cls K C)(f:Str):PySem.W.plainGet K C f=true:=c.pg
section
variable {X:Cx}{pins:List (Addr×Obj)}{σ:St}{H:Hp}{s:Shared}{a C dx:Addr}{fs:List (Str×V)}{f:Str}{v:V}{A:Around}{E:Value→Shared→Prop}
end
end L2
namespace L2
open PySem PySem.Spec PyProof.Rows
structure Room (k:Nat)(A:Around):Prop where
 hd:A.handled=none
 dp:A.depth+3*k+5<recursionLimit
 un:A.units+16*k+200<cLine
theorem Room.mono {j k:Nat}{A:Around}(r:Room k A)(h:j≤k):Room j A:=⟨r.hd,by have:=r.dp;omega,by have:=r.un;omega⟩
theorem Room.deeper {k:Nat}{A:Around}(r:Room (k+1) A)(env:Env):Room k (A.deeper env) :=
 ⟨r.hd,by have:=r.dp;show A.depth+1+3*k+5<_;omega,by have:=r.un;show A.units+3+16*k+200<_;omega⟩
theorem Room.in1 {k:Nat}{A:Around}(r:Room (k+1) A):Room k A.in1 :=
 ⟨r.hd,by have:=r.dp;show A.depth+3*k+5<_;omega,by have:=r.un;show A.units+1+16*k+200<_;omega⟩
theorem Room.depth {k:Nat}{A:Around}(r:Room k A):A.depth<recursionLimit:=by have:=r.dp;omega
theorem Room.units {k:Nat}{A:Around}(r:Room k A):A.units+64<cLine:=by have:=r.un;omega
def tNil:TA:=fun _ H Q=>Q [] H
def tCons (ta:TE)(tr:TA):TA:=fun σ H Q=>ta σ H fun x H1=>tr σ H1 fun xs H2=>Q (x::xs) H2
section
variable {X:Cx}{e:Expr}{es:List Expr}{te:TE}{t:TA}{pos:Pos}
theorem pa_nil:PA X [] tNil:=fun _ _ _ _ H Q I h=>Calls.spliced_nil ⟨[],H,I,.nil,h⟩
theorem yU (ha:PE X e te)(hr:PA X es t)(hs:starEach (e::es) X.env=(false,eval e X.env)::starEach es X.env:=by rfl):PA X (e::es) (tCons te t):=by
 intro pos pins s σ H Q I h
 rw[hs]
 show wpAny _ _ (spliced ((false,eval e X.env)::backTo pos (starEach es X.env))) _ _ s
 refine Calls.spliced_cons (thn (ha pins s σ H _ I h) fun u s1 hq21=>?_)
 obtain⟨x,H1,I1,r1,q1⟩:=hq21
 exact thn (hr pos pins s1 σ H1 _ I1 q1) fun us s2 ⟨xs,H2,I2,r2,q2⟩=>⟨x::xs,H2,I2,.cons r1 r2,q2⟩
def tTup (t:TA):TE:=fun σ H Q=>t σ H fun xs H1=>xs.length≤sizeLine∧∀p,H1 p=none→Q (.ref p) (upd H1 p (.tup xs))
def tLst (t:TA):TE:=fun σ H Q=>t σ H fun xs H1=>xs.length≤sizeLine∧∀p,H1 p=none→Q (.ref p) (upd H1 p (.lst xs))
theorem pe_tup {x1}(h:PA X es t):PE X (.Tuple es x1 pos) (tTup t):=by
 intro pins s σ H Q I hq
 refine wpAny_Tuple_spliced (thn (h pos pins s σ H _ I hq) fun us s1 ⟨xs,H1,I1,r,z,q⟩=>⟨by rw[← r.length];exact z,?_⟩)
 have hf:H1 s1.heap.objs.size=none:=I1.hok.fresh (Nat.le_refl _)
 refine⟨.ref s1.heap.objs.size,upd H1 s1.heap.objs.size (.tup xs),I1.laid (t':=s1.toks) (fun b u e=>Heap.get?_push_of_some _ e) (Nat.le_refl _) ?_,rfl,q _ hf⟩
 exact⟨z,us,r,TupD.new _ _⟩
theorem pe_lst (h:PA X es t):PE X (.List es pos) (tLst t):=by
 intro pins s σ H Q I hq
 refine wpAny_List_spliced (thn (h pos pins s σ H _ I hq) fun us s1 ⟨xs,H1,I1,r,z,q⟩=>⟨by rw[← r.length];exact z,?_⟩)
 have hf:H1 s1.heap.objs.size=none:=I1.hok.fresh (Nat.le_refl _)
 refine⟨.ref s1.heap.objs.size,upd H1 s1.heap.objs.size (.lst xs),I1.laid (t':=s1.toks) (fun b u e=>Heap.get?_push_of_some _ e) (Nat.le_refl _) ?_,rfl,q _ hf⟩
 exact⟨z,us,0,r,Heap.get?_push_size _ rfl⟩
end
abbrev Sp:=List V→Hp→VK→XK→Prop
abbrev CXT:=List Env→Hp→Shared→XK→Value→Shared→Prop
structure Env0 (P:Program)(w:World)(K:PySem.W.Frag)(mg:Str→Option Value)(base:Heap)(A:Around)(outer:List Env)(s:Shared)(H:Hp):Prop where
 frames:A.frames=some outer
 mod:Mod K mg base
 bs:∀b o,base.get? b=some o→s.heap.get? b=some o∧H b=none
 bsz:base.objs.size≤s.heap.objs.size
 funs:s.heap.FunFrames base outer
 frf:∀b∈frs outer,H b=none
 hok:HOk P w H s.heap
 bare:AllBare s.gens
def CE (outer:List Env)(P:Program)(w:World)(H:Hp)(s:Shared)(Q:VK)(u:Value)(s':Shared):Prop :=
 ∃v H',s'.os=s.os∧AllBare s'.gens∧Un (frs outer) [] H H' s.heap s'.heap∧HOk P w H' s'.heap∧RelV v u∧Q v H'
def CR (CX:CXT)(outer:List Env)(P:Program)(w:World)(H:Hp)(s:Shared)(Q:VK)(E:XK)(r:Result)(s':Shared):Prop :=
 match r with
 | .ok (.ret u)=>CE outer P w H s Q u s'
 | .ok _=>False
 | .error e=>CX outer H s E e s'
structure FnOk (P:Program)(w:World)(K:PySem.W.Frag)(mg:Str→Option Value)(base:Heap)(CX:CXT)(k:Nat)(f:Addr)(fd:FuncData)(ps:List Str)(sp:Sp):Prop where
 len:∀vs H Q E,sp vs H Q E→vs.length=ps.length
 run:∀(A:Around) (outer:List Env) (s:Shared) (H:Hp) (args:Args) (us:List Value) (vs:List V) (Q:VK) (E:XK),Room k A→Env0 P w K mg base A outer s H→BindsTo s fd args (ps.zip us)→Vals vs us→sp vs H Q E →
  codeAny (model P w) A (.call (.ref f) args) (CR CX outer P w H s Q E) s
theorem FnOk.mono {P:Program}{w:World}{K:PySem.W.Frag}{mg:Str→Option Value}{base:Heap}{CX:CXT}{j k:Nat}{f:Addr}{fd:FuncData}{ps:List Str}{sp:Sp}(F:FnOk P w K mg base CX j f fd ps sp)(h:j≤k) :
  FnOk P w K mg base CX k f fd ps sp:=⟨F.len,fun A outer s H args us vs Q E hr=>F.run A outer s H args us vs Q E (hr.mono h)⟩
theorem Env0.in1 {P:Program}{w:World}{K:PySem.W.Frag}{mg:Str→Option Value}{base:Heap}{A:Around}{outer:List Env}{s:Shared}{H:Hp}(e:Env0 P w K mg base A outer s H) :
  Env0 P w K mg base A.in1 outer s H:=⟨e.frames,e.mod,e.bs,e.bsz,e.funs,e.frf,e.hok,e.bare⟩
section
variable {X:Cx}{pins:List (Addr×Obj)}{σ:St}{H:Hp}{s s':Shared}
theorem Inv.env0 (I:Inv X pins σ H s):Env0 X.prog X.w X.K X.mg X.base X.A X.stack s H :=
 ⟨I.ok.frames,I.ok.mod,I.bs,Nat.le_trans I.ok.bsz I.sz,I.stack,I.stkFree,I.hok,I.bare⟩
theorem Inv.after {Q:VK}{u:Value}(I:Inv X pins σ H s)(h:CE X.stack X.prog X.w H s Q u s'):EP X pins σ Q u s':=by
 obtain⟨v,H',os,bare,un,hok,r,q⟩:=h
 obtain⟨hh,g,d,t,os'⟩:=s'
 obtain rfl:os'=s.os:=os
 exact⟨v,H',I.call (h':=hh) (g':=g) (d':=d) (t':=t) (ch:=[]) un hok bare (fun b z=>absurd z (by simp)),r,q⟩
end
def tCall (sp:Sp)(dvs:List V)(E:XK)(t:TA):TE:=fun σ H Q=>t σ H fun vs H1=>sp (vs++dvs) H1 Q E
def Binds (K:PySem.W.Frag)(fd:FuncData)(ps:List Str)(ds:List Value):Prop :=
 ∀(s:Shared) (us:List Value),K.In s.heap→(us++ds).length=ps.length→BindsTo s fd ⟨us,[]⟩ (ps.zip (us++ds))
theorem Binds.all {K:PySem.W.Frag}{fd:FuncData}{ps:List Str}(h:∀us:List Value,us.length=ps.length→bindArgs fd ⟨us,[]⟩=pure (ps.zip us)):Binds K fd ps []:=fun s us _ hl=>by
 rw[List.append_nil] at hl ⊢
 exact .of_eq (h us hl)
def Passes (CX:CXT)(X:Cx)(E:XK):Prop:=∀(pins:List (Addr×Obj)) (σ:St) (H:Hp) (s:Shared) (e:Value) (s':Shared),Inv X pins σ H s→CX X.stack H s E e s'→X.xe e s'
section
variable {X:Cx}{CX:CXT}{k:Nat}{f C:Addr}{fd:FuncData}{ps:List Str}{sp:Sp}{dvs:List V}{ds:List Value}{E:XK}{x m:Str}{p pos apos:Pos}{e o:Expr}{es:List Expr}{ta:TE}{t:TA}
theorem run_fn {pins:List (Addr×Obj)}{σ:St}{H:Hp}{s:Shared}{Q:VK}{us:List Value}{vs:List V}(F:FnOk X.prog X.w X.K X.mg X.base CX k f fd ps sp)(hr:Room k X.A)(hb:Binds X.K fd ps ds)(hd:Vals dvs ds)(hx:Passes CX X E)
  (I:Inv X pins σ H s) (r:Vals vs us) (h:sp (vs++dvs) H Q E):wpAny (model X.prog X.w) X.A (call (.ref f) us) (EP X pins σ Q) X.xe s:=by
 have r2:Vals (vs++dvs) (us++ds):=r.append hd
 have hl:(us++ds).length=ps.length:=by rw[← r2.length];exact F.len _ _ _ _ h
 refine wpAny_call (codeAny_mono (F.run X.A X.stack s H ⟨us,[]⟩ (us++ds) (vs++dvs) Q E hr I.env0 (hb s us I.kIn hl) r2 h) fun r s' hq=>?_)
 cases r with
 | error e=>exact hx pins σ H s e s' I hq
 | ok fl =>
  cases fl with
  | ret u=>exact I.after hq
  | next=>exact False.elim hq
  | brk=>exact False.elim hq
  | cont=>exact False.elim hq
theorem pe_call (F:FnOk X.prog X.w X.K X.mg X.base CX k f fd ps sp)(hr:Room k X.A)(hg:Gl X x)(hm:X.mg x=some (.ref f))(hk:PySem.W.keepIn X.K (.ref f)=true)(hb:Binds X.K fd ps ds)(hd:Vals dvs ds)(hx:Passes CX X E)
  (ha:PA X (e::es) t) (hdb:(x == ("__debug__" : Str))=false:=by decide) (he:starEach (e::es) X.env=(false,eval e X.env)::starEach es X.env:=by rfl) (hpl:(backTo pos (starEach es X.env)).any (·.1)=false:=by rfl) :
  PE X (.Call (.Name x p) (e::es) [] pos) (tCall sp dvs E t):=by
 intro pins s σ H Q I h
 refine wpAny_Call_Name_kw (ld_glob I hg hm ?_ hdb)
 refine PySem.W.callWith_K (h₀:=X.base) I.ok.mod.kin hk (thn (ha pos pins s σ H _ I h) fun us s1 ⟨vs,H1,I1,r,q⟩=>⟨I1.kIn,?_⟩) he hpl
 exact run_fn F hr hb hd hx I1 r q
end
structure FnScope (N P:List Str)(sc:Scope):Prop where
 kind:sc.kind=.function
 co:sc.isCoroutine=false
 gen:sc.isGenerator=false
 nd:N.Nodup
 pre:N.take P.length=P
 par:∀x∈P,sc.names.lookup x=some .local∨sc.names.lookup x=some .cell
 nofree:∀y∈sc.names,y.2≠.free
theorem bindL_out {kindOf:Str→Option NameKind}{x:Str}:∀{binds:List (Str×Value)}{m:Str→Option Value},(∀v,(x,v)∉binds)→bindL kindOf binds m x=m x
 | [],_,_=>rfl
 | (n,v)::r,m,h=>by
  unfold bindL
  rw[bindL_out fun w hw=>h w (List.mem_cons_of_mem _ hw)]
  split
  ·have:x≠n:=by rintro rfl;exact h v List.mem_cons_self
   simp[this]
  ·rfl
theorem bindC_out {kindOf:Str→Option NameKind}{x:Str}:∀{binds:List (Str×Value)}{m:Str→Option Value},(∀v,(x,v)∉binds)→bindC kindOf binds m x=m x
 | [],_,_=>rfl
 | (n,v)::r,m,h=>by
  unfold bindC
  rw[bindC_out fun w hw=>h w (List.mem_cons_of_mem _ hw)]
  split
  ·rfl
  ·have:x≠n:=by rintro rfl;exact h v List.mem_cons_self
   simp[this]
theorem bindL_get {kindOf:Str→Option NameKind}{x:Str}{v:Value}:∀{P:List Str}{vs:List Value}{i:Nat}{m:Str→Option Value},P.Nodup→P[i]? = some x→vs[i]? = some v→kindOf x=some .local →
  bindL kindOf (P.zip vs) m x=some v
 | [],_,_,_,_,h,_,_=>by simp at h
 | _::_,[],_,_,_,_,h,_=>by simp at h
 | p::P,w::vs,0,m,nd,h1,h2,hk=>by
  simp at h1 h2;subst h1;subst h2
  show bindL kindOf ((p,w)::P.zip vs) m p=_
  unfold bindL
  rw[bindL_out fun v hv=>(List.nodup_cons.mp nd).1 (List.of_mem_zip hv).1,if_pos hk]
  simp
 | p::P,w::vs,i+1,m,nd,h1,h2,hk=>by
  show bindL kindOf ((p,w)::P.zip vs) m x=_
  unfold bindL
  exact bindL_get (i:=i) (List.nodup_cons.mp nd).2 (by simpa using h1) (by simpa using h2) hk
theorem bindC_get {kindOf:Str→Option NameKind}{x:Str}{v:Value}:∀{P:List Str}{vs:List Value}{i:Nat}{m:Str→Option Value},P.Nodup→P[i]? = some x→vs[i]? = some v→kindOf x≠some .local →
  bindC kindOf (P.zip vs) m x=some v
 | [],_,_,_,_,h,_,_=>by simp at h
 | _::_,[],_,_,_,_,h,_=>by simp at h
 | p::P,w::vs,0,m,nd,h1,h2,hk=>by
  simp at h1 h2;subst h1;subst h2
  show bindC kindOf ((p,w)::P.zip vs) m p=_
  unfold bindC
  rw[bindC_out fun v hv=>(List.nodup_cons.mp nd).1 (List.of_mem_zip hv).1,if_neg hk]
  simp
 | p::P,w::vs,i+1,m,nd,h1,h2,hk=>by
  show bindC kindOf ((p,w)::P.zip vs) m x=_
  unfold bindC
  exact bindC_get (i:=i) (List.nodup_cons.mp nd).2 (by simpa using h1) (by simpa using h2) hk
def start (N:List Str)(vs:List V):St:=vs.map some++List.replicate (N.length - vs.length) none
def cxOf (CX:CXT)(P:Program)(w:World)(K:PySem.W.Frag)(mg:Str→Option Value)(base:Heap)(N:List Str)(qual:Str)(scope:Scope)(f:Addr)(cd:Value)(A:Around)(outer:List Env)(s:Shared)(H:Hp)(E:XK):Cx where
 prog:=P
 w:=w
 K:=K
 mg:=mg
 base:=base
 A:=A.deeper (envOfC qual scope s.heap.objs.size f cd)
 N:=N
 s₀:=s
 H₀:=H
 env:=envOfC qual scope s.heap.objs.size f cd
 outer:=outer
 stack:=envOfC qual scope s.heap.objs.size f cd::outer
 ex:=[]
 calm:=true
 fn:=fun _=>true
 pn:=[]
 xe:=fun e s'=>wpAny (model P w) (A.deeper (envOfC qual scope s.heap.objs.size f cd)) (leaving (envOfC qual scope s.heap.objs.size f cd) e) (fun _ s''=>CX outer H s E e s'') (fun e' s''=>CX outer H s E e' s'') s'
theorem cell_has {sc:Scope}{n:Nat}{x:Str}(h:sc.names.lookup x=some .cell):∃c,(cellsFrom n sc.names []).lookup x=some c:=by
 have q:=PySem.W.cellsFrom_some sc.names n [] (.inl h)
 exact Option.isSome_iff_exists.mp q
theorem inv_start {CX:CXT}{P:Program}{w:World}{K:PySem.W.Frag}{mg:Str→Option Value}{base:Heap}{N ps:List Str}{qual:Str}{scope:Scope}{f:Addr}{cd:Value}{A:Around}{outer:List Env}{s s1:Shared}{H:Hp}{E:XK}{us:List Value}{vs:List V}
  (S:FnScope N ps scope) (hd:A.handled=none) (e0:Env0 P w K mg base A outer s H) (hl:vs.length=ps.length) (r:Vals vs us)
  (x:InCallC s s.heap.objs.size (bindL (envOfC qual scope s.heap.objs.size f cd).kindOf (ps.zip us) fun _=>none) (cellsFrom (s.heap.objs.size+1) scope.names []) (bindC (envOfC qual scope s.heap.objs.size f cd).kindOf (ps.zip us) fun _=>none) s1) :
  Inv (cxOf CX P w K mg base N qual scope f cd A outer s H E) [] (start N vs) H s1:=by
 have hpl:ps.length≤N.length:=by have:=congrArg List.length S.pre;rw[List.length_take] at this;omega
 obtain⟨h1,tk,rfl,hk⟩:=x.done
 have noA:∀b:Addr,b∉(cxOf CX P w K mg base N qual scope f cd A outer s H E).ex:=fun b z=>absurd (show b∈([]:List Addr) from z) (by simp)
 refine ⟨⟨e0.mod,S.kind,rfl,rfl,Nat.le_refl _,fun y z c h1 h2=>?_,fun y hy=>?_,fun y c _ h=>?_,fun _=>hd,Around.frames_deeper e0.frames,.inr ⟨rfl,rfl⟩,fun b z=>absurd z (noA b),e0.bs,e0.bsz,fun b _ _=>noA b,fun b z=>absurd z (noA b),e0.funs,e0.frf⟩,
  rfl,e0.bare,Un.kept hk,⟨_,x.toInCall.ns,fun i y v h1 h2 h3=>?_⟩,fun y c h=>⟨_,x.cell y c h⟩,e0.hok.fresh (Nat.le_refl _),fun y c h=>?_,fun p hp=>absurd (show p∈([]:List (Addr×Obj)) from hp) (by simp),e0.hok.kept hk,?_⟩
 ·exact name_of_addr x.apart (PySem.mem_of_lookup h1) (PySem.mem_of_lookup h2)
 ·have hy:scope.names.lookup y=some .cell∨scope.names.lookup y=some .free:=hy
  rcases hy with hy|hy
  ·exact cell_has hy
  ·exact absurd rfl (S.nofree _ (PySem.mem_of_lookup hy))
 ·exact Nat.le_of_lt (x.above y c (PySem.mem_of_lookup h))
 ·have hi:i<vs.length:=by
   unfold start at h2
   by_cases hi:i<vs.length
   ·exact hi
   ·rw[List.getElem?_append_right (by simpa using hi)] at h2
    rw[List.getElem?_replicate] at h2
    split at h2 <;>cases h2
  have ha:vs[i]? = some v:=by
   unfold start at h2
   rw[List.getElem?_append_left (by simpa using hi),List.getElem?_map] at h2
   cases e:vs[i]? with
   | none=>rw[e] at h2;cases h2
   | some a=>rw[e] at h2;cases h2;rfl
  obtain⟨u,hu,rv⟩:=r.get ha
  have hp:ps[i]? = some y:=by
   rw[← S.pre,List.getElem?_take_of_lt (by omega)];exact h1
  have ndP:ps.Nodup:=by rw[← S.pre];exact S.nd.sublist (List.take_sublist _ _)
  refine⟨u,rv,?_⟩
  rcases S.par y (List.mem_of_getElem? hp) with k|k
  ·exact .inl ⟨k,bindL_get ndP hp hu k⟩
  ·obtain⟨c,e⟩:=cell_has (n:=s.heap.objs.size+1) k
   refine .inr ⟨.inl k,c,e,?_⟩
   have q:=x.cell y c e
   rw[bindC_get ndP hp hu (by show scope.names.lookup y≠_;rw[k];decide)] at q
   exact q
 ·exact e0.hok.fresh (Nat.le_of_lt (x.above y c (PySem.mem_of_lookup h)))
 ·unfold start
  show _=N.length
  rw[List.length_append,List.length_map,List.length_replicate]
  omega
theorem fn_of {CX:CXT}{P:Program}{w:World}{K:PySem.W.Frag}{mg:Str→Option Value}{base:Heap}{k:Nat}{f:Addr}{name qual:Str}{params:Arguments}{body:List Stmt}{scope:Scope}{dV kV doc pm cdv ct oc:Value}{an od:Option Addr}
  {osl:Array (Option Value)}{N ps:List Str}{sp:Sp} (lk:K.lookup f=some ⟨oc,od,.func (PySem.W.fnOf name qual params body scope dV kV doc pm an cdv ct),osl⟩) (hcd:PySem.W.codeIn K cdv qual=true) (S:FnScope N ps scope)
  (len:∀vs H Q E,sp vs H Q E→vs.length=ps.length)
  (hbody:∀(A:Around) (outer:List Env) (s:Shared) (H:Hp) (vs:List V) (Q:VK) (E:XK),Room k (A.deeper (envOfC qual scope s.heap.objs.size f cdv))→sp vs H Q E →
   ∃t,PSs (cxOf CX P w K mg base N qual scope f cdv A outer s H E) body t∧t {nx:=fun _ H'=>Q .non H',rt:=Q} (start N vs) H) :
  FnOk P w K mg base CX (k+1) f (PySem.W.fnOf name qual params body scope dV kV doc pm an cdv ct) ps sp:=by
 refine⟨len,fun A outer s H args us vs Q E hr e0 hb r hsp=>?_⟩
 have hl:=len _ _ _ _ hsp
 have KX:K.In s.heap:=e0.mod.kin.keeps fun b o e=>(e0.bs b o e).1
 have lim:s.heap.NoLimit:=e0.mod.nolimit.keeps fun b o e=>(e0.bs b o e).1
 have hkind:∀y∈ps.zip us,scope.names.lookup y.1=some .local∨(scope.names.lookup y.1=some .cell∧((cellsFrom (s.heap.objs.size+1) scope.names []).lookup y.1).isSome=true):=fun⟨n,v⟩ hy=>by
  rcases S.par n (List.of_mem_zip hy).1 with q|q
  ·exact .inl q
  ·exact .inr ⟨q,PySem.W.cellsFrom_some _ _ _ (.inl q)⟩
 refine codeAny_call_function hr.depth (KX _ _ lk) rfl S.co S.gen rfl (PySem.W.codeRec_of KX hcd) (hb _ _ _ _ ?_)
 refine wpAny_newFunctionEnv_cells S.kind hkind fun env he s1 x=>?_
 subst he
 refine⟨lim.keeps x.toInCall.keep,codeAny_func ?_⟩
 obtain⟨t,ht,hq⟩:=hbody A outer s H vs Q E (hr.deeper _) hsp
 have I:Inv (cxOf CX P w K mg base N qual scope f cdv A outer s H E) [] (start N vs) H s1:=inv_start S hr.hd e0 hl r x
 refine wpAny_mono (ht [] s1 (start N vs) H _ I hq) (fun fl s' hs=>?_) fun e s' hs=>hs
 have fin:∀{σ':St}{H':Hp}{v:V}{u:Value},Inv (cxOf CX P w K mg base N qual scope f cdv A outer s H E) [] σ' H' s'→RelV v u→Q v H'→CE outer P w H s Q u s' :=
  fun {σ' H' v u} J rv q=>⟨v,H',J.os,J.bare,J.base,J.hok,rv,q⟩
 cases fl with
 | ret u =>
  obtain⟨v,σ',H',J,rv,q⟩:=hs
  exact fin J rv q
 | next =>
  obtain⟨σ',H',J,q⟩:=hs
  exact fin (v:=V.non) (u:=Value.none) J rfl q
 | brk =>
  obtain⟨_,_,_,q⟩:=hs
  exact False.elim q
 | cont =>
  obtain⟨_,_,_,q⟩:=hs
  exact False.elim q
end L2
namespace L2
open PySem PySem.Spec PyProof.Rows
section
variable {X:Cx}{x:Str}{p pos:Pos}{e:Expr}{es:List Expr}{t:TA}{id T:String}{r:List V→Hp→VK→Prop}
def tCB (r:List V→Hp→VK→Prop)(t:TA):TE:=fun σ H Q=>t σ H fun vs H1=>r vs H1 Q
theorem pe_callB (hc:CallR X (.builtin id) r)(hg:Gl X x)(hm:X.mg x=none)(hv:bootBuiltins x=some (.builtin id))(ha:PA X (e::es) t)(hn:x ≠ "__name__" := by decide)(hdb:(x == ("__debug__" : Str))=false:=by decide)
  (he:starEach (e::es) X.env=(false,eval e X.env)::starEach es X.env:=by rfl) (hpl:(backTo pos (starEach es X.env)).any (·.1)=false:=by rfl):PE X (.Call (.Name x p) (e::es) [] pos) (tCB r t):=by
 intro pins s σ H Q I h
 refine wpAny_Call_Name_kw (ld_blt I hg hm hv ?_ hn hdb)
 exact PyProof.Rows.callWith_builtin1 (thn (ha pos pins s σ H _ I h) fun us s1 ⟨vs,H1,I1,r1,q1⟩=>hc pins s1 σ H1 vs us Q I1 r1 q1) he hpl
theorem pe_callTy (hc:CallR X (.type T) r)(hg:Gl X x)(hm:X.mg x=none)(hv:bootBuiltins x=some (.type T))(ha:PA X (e::es) t)(hn:x ≠ "__name__" := by decide)(hdb:(x == ("__debug__" : Str))=false:=by decide)
  (he:starEach (e::es) X.env=(false,eval e X.env)::starEach es X.env:=by rfl) (hpl:(backTo pos (starEach es X.env)).any (·.1)=false:=by rfl):PE X (.Call (.Name x p) (e::es) [] pos) (tCB r t):=by
 intro pins s σ H Q I h
 refine wpAny_Call_Name_kw (ld_blt I hg hm hv ?_ hn hdb)
 exact PyProof.Rows.callWith_type1 (thn (ha pos pins s σ H _ I h) fun us s1 ⟨vs,H1,I1,r1,q1⟩=>hc pins s1 σ H1 vs us Q I1 r1 q1) he hpl
end
end L2
namespace HT
open PySem PyProof.Rows
section
open PySem.SeqAt
open PySem.AutoSeq1 (wpAny_loadPart')
open PySem.MeetsSeq PySem.MeetsSeq2 PySem.MeetsSeq3
end
section
variable {prog:Program}{w:World}{A:Around}{E:Value→Shared→Prop}{s:Shared}
def sIx (n d:Nat):Option Int→Nat
 | none=>d
 | some v=>if v<0 then(v+(n:Int)).toNat else min v.toNat n
theorem sIx_none (n d:Nat):sIx n d none=d:=rfl
theorem sIx_nat (n d k:Nat):sIx n d (some (k:Int))=min k n:=by
 show(if (k:Int)<0 then((k:Int)+(n:Int)).toNat else min (k:Int).toNat n)=min k n
 rw[if_neg (by omega),Int.toNat_natCast]
theorem sIx_le (n d:Nat)(hd:d≤n)(o:Option Int):sIx n d o≤n:=by
 cases o with
 | none=>exact hd
 | some v =>
  show(if v<0 then(v+(n:Int)).toNat else min v.toNat n)≤n
  by_cases hv:v<0
  ·rw[if_pos hv];omega
  ·rw[if_neg hv];exact Nat.min_le_right _ _
theorem clip_eq (v:Int)(n d:Nat):(if v<0 then max (v+(n:Int)) 0 else min v (n:Int))=((sIx n d (some v):Nat):Int):=by
 show(if v<0 then max (v+(n:Int)) 0 else min v (n:Int))=(((if v<0 then(v+(n:Int)).toNat else min v.toNat n):Nat):Int)
 by_cases hv:v<0
 ·simp only[if_pos hv];omega
 ·simp only[if_neg hv];omega
theorem adjust_gen (lo hi:Option Int)(n:Nat):Builtin.Slice.sliceAdjust lo hi 1 (n:Int)=(((sIx n 0 lo:Nat):Int),((sIx n n hi:Nat):Int)):=by
 have h1:¬((1:Int)<0):=by omega
 unfold Builtin.Slice.sliceAdjust
 simp only[h1,if_false]
 refine Prod.ext ?_ ?_
 ·cases lo with
  | none=>rfl
  | some v=>exact clip_eq v n 0
 ·cases hi with
  | none=>rfl
  | some v=>exact clip_eq v n n
theorem places_gen (i j:Nat):Builtin.Slice.slicePlaces (i:Int) (j:Int) 1=j - i:=by
 unfold Builtin.Slice.slicePlaces
 have h1:(1:Int) > 0:=by omega
 simp only[h1,if_true,Int.ediv_one]
 split <;>omega
theorem slicePart_ {v:Value}{o:Option Int}{Q:Option Int→Shared→Prop}(p:IsPart v o)(h:Q o s):wpAny (model prog w) A (Builtin.Slice.slicePartIndex v) Q E s:=by
 cases p with
 | none=>exact slicePart_none h
 | int i t=>exact slicePart_int h
theorem sliceApplied_gen {sl:Addr}{vl vu:Value}{lo hi:Option Int}{n:Nat}{Q:Int×Int×Nat→Shared→Prop}(hs:s.heap.IsSliceOf sl vl vu .none)(pl:IsPart vl lo)(pu:IsPart vu hi)
  (h:Q (((sIx n 0 lo:Nat):Int),1,sIx n n hi - sIx n 0 lo) s):wpAny (model prog w) A (Builtin.Slice.sliceApplied (.ref sl) (pure (n:Int))) Q E s:=by
 obtain⟨os,hos,hcs,hds⟩:=id hs
 unfold Builtin.Slice.sliceApplied Builtin.Slice.sliceFields
 refine wpAny_bind (wpAny_bind (wpAny_field hos hds (x:=vl) rfl (wpAny_bind (wpAny_field hos hds (x:=vu) rfl (wpAny_bind (wpAny_field hos hds (x:=.none) rfl (wpAny_pure ?_)))))))
 refine wpAny_bind (slicePart_none ?_)
 show wpAny _ _ (if ((1:Int) == 0)=true then _ else _) _ _ s
 rw[if_neg (by decide)]
 refine wpAny_bind (slicePart_ pl (wpAny_bind (slicePart_ pu (wpAny_bind (wpAny_pure ?_)))))
 show wpAny _ _ (match Builtin.Slice.sliceAdjust lo hi 1 (n:Int) with|(lo,hi)=>pure (lo,(1:Int),Builtin.Slice.slicePlaces lo hi 1)) _ _ s
 rw[adjust_gen lo hi n]
 show wpAny _ _ (pure (((sIx n 0 lo:Nat):Int),(1:Int),Builtin.Slice.slicePlaces ((sIx n 0 lo:Nat):Int) ((sIx n n hi:Nat):Int) 1)) _ _ s
 rw[places_gen]
 exact wpAny_pure h
theorem pick_gen (xs:Array Value)(i k:Nat):((List.range k).filterMap fun(m:Nat)=>xs[((i:Int)+(m:Int)*1).toNat]?).toArray=((xs.toList.drop i).take k).toArray:=by
 have e:(fun(m:Nat)=>xs[((i:Int)+(m:Int)*1).toNat]?)=fun m=>xs[i+m]?:=by
  funext m
  have:((i:Int)+(m:Int)*1).toNat=i+m:=by omega
  rw[this]
 rw[e]
 have:=pick_run xs i k
 rw[List.filterMap_map] at this
 have e2:((fun x=>xs[x]?)∘fun x=>i+x)=fun m=>xs[i+m]?:=rfl
 rw[e2] at this
 rw[this]
theorem getItem_tuple_cut {t sl:Addr}{items:Array Value}{vl vu:Value}{lo hi:Option Int}{Q:Value→Shared→Prop}(ht:IsTup s.heap t items)(hs:s.heap.IsSliceOf sl vl vu .none)(pl:IsPart vl lo)(pu:IsPart vu hi)
  (hw:¬(sIx items.size 0 lo=0∧sIx items.size items.size hi=items.size))
  (h:Q (.ref s.heap.objs.size) {s with heap:=s.heap.push {cls:=.type "tuple", data:=.seq ((items.toList.drop (sIx items.size 0 lo)).take (sIx items.size items.size hi - sIx items.size 0 lo)).toArray} })
  (hsz:items.size≤sizeLine):wpAny (model prog w) A (getItem (.ref t) (.ref sl)) Q E s:=by
 have htake:sizeOk (.seq ((items.toList.drop (sIx items.size 0 lo)).take (sIx items.size items.size hi - sIx items.size 0 lo)).toArray):=by
  show((items.toList.drop (sIx items.size 0 lo)).take (sIx items.size items.size hi - sIx items.size 0 lo)).toArray.size≤sizeLine
  rw[List.size_toArray,List.length_take,List.length_drop,Array.length_toList]
  omega
 have hj:sIx items.size items.size hi≤items.size:=sIx_le _ _ (Nat.le_refl _) hi
 obtain⟨os,hos,hcs,hds⟩:=id hs
 have hTs:s.TypeIs (.ref sl) "slice" := ⟨os,hos,hcs⟩
 unfold getItem
 try with_reducible refine wpAny_holding ?_
 first|refine wpAny_bind (wpAny_pure ?_)|skip
 refine wpAny_bind (wpAny_sequenceKey ht.typeIs (by decide) ?_)
 refine wpAny_bind (wpAny_callSpecial?_slot (name:=Str.ofString "__getitem__") ht.typeIs PyProof.Rows.slot_tuple_getitem
  (wpAny_call_entry PyProof.Rows.slot_tuple_getitem ht.typeIs entry_tuple_getitem ?_ (args_tuple_getitem _ _)))
 show wpAny _ _ (Builtin.Tuple.tupleItemsOf (.ref t) >>= _) _ _ s
 refine wpAny_bind (tupleItemsOf_ ht ?_)
 refine wpAny_bind (wpAny_typeOf hTs ?_)
 rw[if_pos (by decide)]
 refine wpAny_bind (sliceApplied_gen hs pl pu ?_)
 have hno:¬((((sIx items.size 0 lo:Nat):Int) == 0&&(1:Int) == 1&&(sIx items.size items.size hi - sIx items.size 0 lo) == items.size)=true):=by
  intro q
  rw[Bool.and_eq_true,Bool.and_eq_true] at q
  have q1:((sIx items.size 0 lo:Nat):Int)=0:=eq_of_beq q.1.1
  have q2:sIx items.size items.size hi - sIx items.size 0 lo=items.size:=eq_of_beq q.2
  exact hw ⟨by omega,by omega⟩
 show wpAny _ _ (if (((sIx items.size 0 lo:Nat):Int) == 0&&(1:Int) == 1&&(sIx items.size items.size hi - sIx items.size 0 lo) == items.size)=true then _ else _) _ _ s
 rw[if_neg hno,pick_gen]
 first
  | exact wpAny_bind (m:=Builtin.Tuple.tupleExact _) (wpAny_newObj_type (wpAny_pure ⟨_,rfl,wpAny_pure h⟩) htake)
  | exact wpAny_bind (m:=Builtin.Tuple.tupleExact _) (wpAny_newObj_type (wpAny_bind (wpAny_pure (wpAny_pure ⟨_,rfl,wpAny_pure h⟩))) htake)
  | exact wpAny_bind (wpAny_bind (m:=Builtin.Tuple.tupleExact _) (wpAny_newObj_type (wpAny_pure (wpAny_pure ⟨_,rfl,wpAny_pure h⟩)) htake))
  | exact wpAny_bind (wpAny_bind (m:=Builtin.Tuple.tupleExact _) (wpAny_newObj_type (wpAny_pure ⟨_,rfl,wpAny_pure h⟩) htake))
end
end HT
namespace L2
open PySem PySem.Spec PyProof.Rows
abbrev TO:=St→Hp→(Option Int→Hp→Prop)→Prop
def PO (X:Cx)(e:Option Expr)(t:TO):Prop :=
 ∀ (pins:List (Addr×Obj)) (s:Shared) (σ:St) (H:Hp) (Q:Option Int→Hp→Prop),Inv X pins σ H s→t σ H Q →
  wpAny (model X.prog X.w) X.A (evalPart e X.env) (fun u s'=>∃o H',Inv X pins σ H' s'∧IsPart u o∧Q o H') X.xe s
def tNoPart:TO:=fun _ H Q=>Q none H
def tPart (t:TE):TO:=fun σ H Q=>t σ H fun x H1=>∃i,x=.int i∧Q (some i) H1
section
variable {X:Cx}{e:Expr}{te:TE}{lo hi:Option Expr}{tl th:TO}{pos p2:Pos}
theorem po_none:PO X none tNoPart:=by
 intro pins s σ H Q I h
 rw[evalPart_none]
 exact wpAny_pure ⟨none,H,I,.none,h⟩
theorem po_some (h:PE X e te):PO X (some e) (tPart te):=by
 intro pins s σ H Q I hw
 rw[evalPart_some]
 refine thn (h pins s σ H _ I hw) fun u s1 hq22=>?_
 obtain⟨x,H1,I1,r1,q1⟩:=hq22
 obtain⟨i,rfl,q⟩:=q1
 obtain⟨t,rfl⟩:=r1
 exact⟨some i,H1,I1,.int i t,q⟩
def SlR (X:Cx)(r:V→Option Int→Option Int→Hp→VK→Prop):Prop :=
 ∀ (pins:List (Addr×Obj)) (s:Shared) (σ:St) (H:Hp) (x:V) (v vl vu:Value) (lo hi:Option Int) (sl:Addr) (Q:VK),Inv X pins σ H s→RelV x v→s.heap.IsSliceOf sl vl vu .none→IsPart vl lo→IsPart vu hi→r x lo hi H Q →
  ∃T id,typeLookup (.type T) "__getitem__" = pure (some (.builtin id))∧s.TypeIs v T∧wpAny (model X.prog X.w) X.A (getItem v (.ref sl)) (EP X pins σ Q) X.xe s
theorem SlR.or {r r':V→Option Int→Option Int→Hp→VK→Prop}(h:SlR X r)(h':SlR X r'):SlR X (fun x lo hi H Q=>r x lo hi H Q∨r' x lo hi H Q):=by
 intro pins s σ H x v vl vu lo hi sl Q I rx hs pl pu q
 rcases q with q|q
 ·exact h pins s σ H x v vl vu lo hi sl Q I rx hs pl pu q
 ·exact h' pins s σ H x v vl vu lo hi sl Q I rx hs pl pu q
def tSl (r:V→Option Int→Option Int→Hp→VK→Prop)(te:TE)(tl th:TO):TE:=fun σ H Q=>te σ H fun x H1=>tl σ H1 fun l H2=>th σ H2 fun u H3=>r x l u H3 Q
theorem pe_slice {r:V→Option Int→Option Int→Hp→VK→Prop}(hr:SlR X r)(he:PE X e te)(hl:PO X lo tl)(hu:PO X hi th):PE X (.Subscript e (.Slice lo hi none p2) pos) (tSl r te tl th):=by
 intro pins s σ H Q I h
 refine Subscript_ (thn (he pins s σ H _ I h) fun v s1 hq23=>?_)
 obtain⟨x,H1,I1,r1,q1⟩:=hq23
 refine wpAny_Slice (thn (hl pins s1 σ H1 _ I1 q1) fun vl s2 ⟨l,H2,I2,pl,q2⟩=>thn (hu pins s2 σ H2 _ I2 q2) fun vu s3 hq24=>?_)
 obtain⟨u,H3,I3,pu,q3⟩:=hq24
 rw[evalPart_none]
 refine wpAny_pure ?_
 have I4:Inv X pins σ H3 {s3 with heap:=s3.heap.push {cls:=.type "slice", data:=.fields #[vl,vu,.none]} }:=I3.kept (t':=s3.toks) fun b ob q=>Heap.get?_push_of_some _ q
 obtain⟨T,id,hT,ht,hg⟩:=hr pins {s3 with heap:=s3.heap.push {cls:=.type "slice", data:=.fields #[vl,vu,.none]} } σ H3 x v vl vu l u s3.heap.objs.size Q I4 r1 (Heap.IsSliceOf.new ..) pl pu q3
 show wpAny (model X.prog X.w) X.A (subscriptTail e (.Slice lo hi none p2) v (.ref s3.heap.objs.size)) (EP X pins σ Q) X.xe {s3 with heap:=s3.heap.push {cls:=.type "slice", data:=.fields #[vl,vu,.none]} }
 exact tail_any (ops:=[.ref s3.heap.objs.size,v]) ht hT hg (by with_unfolding_all rfl)
def cutV (xs:List V)(lo hi:Option Int):List V:=(xs.drop (HT.sIx xs.length 0 lo)).take (HT.sIx xs.length xs.length hi - HT.sIx xs.length 0 lo)
theorem cutV_length (xs:List V)(lo hi:Option Int):(cutV xs lo hi).length≤xs.length:=by
 unfold cutV
 rw[List.length_take,List.length_drop]
 omega
def rSlT (K:PySem.W.Frag):V→Option Int→Option Int→Hp→VK→Prop:=fun x lo hi H Q=>∃a xs,x=.ref a∧SqT K H a xs ∧
 ¬(HT.sIx xs.length 0 lo=0∧HT.sIx xs.length xs.length hi=xs.length)∧∀p,H p=none→Q (.ref p) (upd H p (.tup (cutV xs lo hi)))
theorem sl_tup:SlR X (rSlT X.K):=by
 intro pins s σ H x v vl vu lo hi sl Q I rx hs pl pu h
 obtain⟨a,xs,rfl,hx,hw,q⟩:=h
 cases rx
 obtain⟨its,r,ht,hz⟩:=I.tuple hx
 have hlen:its.toArray.size=xs.length:=by rw[List.size_toArray];exact r.length.symm
 refine⟨"tuple", _,PyProof.Rows.slot_tuple_getitem.lookup,ht.typeIs,?_⟩
 refine HT.getItem_tuple_cut ht hs pl pu (by rw[hlen];exact hw) ?_ (by rw[hlen];exact hz)
 rw[hlen]
 refine⟨.ref s.heap.objs.size,_,I.laid (t':=s.toks) (o:=.tup (cutV xs lo hi)) (fun b ob q=>Heap.get?_push_of_some _ q) (Nat.le_refl _) ?_,rfl,q _ (I.hok.fresh (Nat.le_refl _))⟩
 exact⟨Nat.le_trans (cutV_length xs lo hi) hz,_,(r.drop (HT.sIx xs.length 0 lo)).take (HT.sIx xs.length xs.length hi - HT.sIx xs.length 0 lo),TupD.new _ _⟩
end
end L2
namespace L2
open PySem PySem.Spec PyProof.Rows
def ixN (n:Nat)(i:Int):Option Nat:=if 0≤i then(if i<n then some i.toNat else none) else if -(n:Int)≤i then some (i+n).toNat else none
def atI {α:Type}(xs:List α)(i:Int):Option α:=(ixN xs.length i).bind fun j=>xs[j]?
theorem ixN_seq {n:Nat}{i:Int}{j:Nat}(h:ixN n i=some j):seqIndex? i n=some j∧j<n∧-(n:Int)≤i∧i<n:=by
 unfold ixN at h
 by_cases h0:0≤i
 ·rw [if_pos h0] at h
  by_cases h1:i<n
  ·rw[if_pos h1] at h
   have e:i.toNat=j:=Option.some.inj h
   exact⟨by rw[seqIndex_of h0 h1,e],by omega,by omega,h1⟩
  ·rw[if_neg h1] at h;cases h
 ·rw [if_neg h0] at h
  by_cases h1:-(n:Int)≤i
  ·rw[if_pos h1] at h
   have e:(i+n).toNat=j:=Option.some.inj h
   exact⟨by rw[seqIndex_neg (by omega) h1,e],by omega,h1,by omega⟩
  ·rw[if_neg h1] at h;cases h
theorem atI_get {α:Type}{xs:List α}{i:Int}{v:α}(h:atI xs i=some v):∃j,seqIndex? i xs.length=some j∧xs[j]? = some v∧j<xs.length∧-(xs.length:Int)≤i∧i<xs.length:=by
 unfold atI at h
 cases e:ixN xs.length i with
 | none=>rw[e] at h;cases h
 | some j =>
  rw[e] at h
  obtain⟨h1,h2,h3,h4⟩:=ixN_seq e
  exact⟨j,h1,h,h2,h3,h4⟩
theorem atI_nat {α:Type}{xs:List α}{j:Nat}{v:α}(h:xs[j]? = some v):atI xs (j:Int)=some v:=by
 have hj:j<xs.length:=(List.getElem?_eq_some_iff.mp h).1
 have e:ixN xs.length (j:Int)=some j:=by
  unfold ixN
  rw[if_pos (by omega),if_pos (by omega)];simp
 unfold atI;rw[e];exact h
def PlainIx (b:Expr):Prop:=∀o i,subscripted b false o i=operate [o,i] (getItem o i)
def IxR (X:Cx)(r:R2):Prop :=
 ∀ (value slice:Expr) (pins:List (Addr×Obj)) (s:Shared) (σ:St) (H:Hp) (x y:V) (v u:Value) (Q:VK),Inv X pins σ H s→RelV x v→RelV y u→r x y H Q →
  subscripted slice false v u=operate [v,u] (getItem v u)→wpAny (model X.prog X.w) X.A (subscriptTail value slice v u) (EP X pins σ Q) X.xe s
def MtR (X:Cx)(id:String)(r:V→List V→Hp→VK→Prop):Prop :=
 ∀ (pins:List (Addr×Obj)) (s:Shared) (σ:St) (H:Hp) (x:V) (xs:List V) (v:Value) (us:List Value) (Q:VK),Inv X pins σ H s→RelV x v→Vals xs us→r x xs H Q →
  wpAny (model X.prog X.w) X.A (call (.builtin id) (v::us)) (EP X pins σ Q) X.xe s
section
variable {X:Cx}{a b:Expr}{ta tb:TE}{pos:Pos}
theorem IxR.or {r r':R2}(h:IxR X r)(h':IxR X r'):IxR X (fun x y H Q=>r x y H Q∨r' x y H Q):=by
 intro value slice pins s σ H x y v u Q I rx ry q hs
 rcases q with q|q
 ·exact h value slice pins s σ H x y v u Q I rx ry q hs
 ·exact h' value slice pins s σ H x y v u Q I rx ry q hs
theorem pe_ix {r:R2}(hr:IxR X r)(ha:PE X a ta)(hb:PE X b tb)(hs:PlainIx b):PE X (.Subscript a b pos) (tOp r ta tb):=by
 intro pins s σ H Q I h
 exact Subscript_ (binT ha hb I h fun v u s2 x y H2 I2 rx ry q=>hr a b pins s2 σ H2 x y v u Q I2 rx ry q (hs _ _))
def rIxL (K:PySem.W.Frag):R2:=fun x y H Q=>∃p xs i v,x=.ref p∧y=.int i∧SqL K H p xs∧atI xs i=some v∧Q v H
def rIxT (K:PySem.W.Frag):R2:=fun x y H Q=>∃p xs i v,x=.ref p∧y=.int i∧SqT K H p xs∧atI xs i=some v∧Q v H
def rIxS:R2:=fun x y H Q=>∃z i c,x=.str z∧y=.int i∧z.length≤sizeLine∧atI z.cps.toList i=some c∧Q (.str ⟨#[c]⟩) H
theorem ix_list:IxR X (rIxL X.K):=by
 intro value slice pins s σ H x y v u Q I rx ry h hs
 obtain⟨p,xs,i,z,rfl,rfl,hq,he,q⟩:=h
 cases rx
 obtain⟨t,rfl⟩:=ry
 obtain⟨its,r,pl,hz⟩:=I.list hq
 obtain⟨j,h1,h2,h3,h4,h5⟩:=atI_get he
 obtain⟨w,ew,rw'⟩:=r.get h2
 have hl:=r.length
 have hn:=line63
 have fin:EP X pins σ Q w s:=⟨z,H,I,rw',q⟩
 by_cases h0:0≤i
 ·have hj:i.toNat=j:=by
   rw[seqIndex_of h0 h5] at h1
   exact Option.some.inj h1
  exact item_listR pl.isList h0 (by omega) (by rw[hj];simpa using ew) fin hs
 ·have hj:(i+(its.toArray.size:Int)).toNat=j:=by
   rw[seqIndex_neg (by omega) h4] at h1
   rw[List.size_toArray,← hl]
   exact Option.some.inj h1
  exact subscriptTail_builtinR (x:=w) pl.isList.typeIs slot_list_getitem.lookup
   (wpAny_getItem_list_neg (Q:=fun r s'=>r=w∧EP X pins σ Q r s') pl.isList (by omega) (by rw[List.size_toArray] <;>omega) (by omega) (by rw[hj];simpa using ew) ⟨rfl,fin⟩) hs
theorem ix_tup:IxR X (rIxT X.K):=by
 intro value slice pins s σ H x y v u Q I rx ry h hs
 obtain⟨p,xs,i,z,rfl,rfl,hq,he,q⟩:=h
 cases rx
 obtain⟨t,rfl⟩:=ry
 obtain⟨its,r,pl,hz⟩:=I.tuple hq
 obtain⟨j,h1,h2,h3,h4,h5⟩:=atI_get he
 obtain⟨w,ew,rw'⟩:=r.get h2
 have hl:=r.length
 have hn:=line63
 have fin:EP X pins σ Q w s:=⟨z,H,I,rw',q⟩
 exact subscriptTail_builtinR (x:=w) pl.typeIs slot_tuple_getitem.lookup
  (getItem_tuple (j:=j) (Q:=fun r s'=>r=w∧EP X pins σ Q r s') pl (by omega) (by omega) (by rw[List.size_toArray,← hl];exact h1) (by simpa using ew) ⟨rfl,fin⟩) hs
theorem ix_str:IxR X rIxS:=by
 intro value slice pins s σ H x y v u Q I rx ry h hs
 obtain⟨z,i,c,rfl,rfl,hz,he,q⟩:=h
 obtain⟨t,rfl⟩:=rx
 obtain⟨t',rfl⟩:=ry
 obtain⟨j,h1,h2,h3,h4,h5⟩:=atI_get he
 have hl:z.cps.toList.length=z.length:=by simp[Str.length]
 rw[hl] at h1 h4 h5
 have hn:=line63
 exact tail_any (typeIs_str s z t) slot_str_getitem.lookup (getItem_str (c:=c) (by
  have e1:decide (i < -(2 ^ 63:Int))=false:=decide_eq_false (by omega)
  have e2:decide (i≥2 ^ 63)=false:=decide_eq_false (by omega)
  rw[e1,e2,Bool.or_false]) (by rw[h1];simpa using h2) ⟨.str ⟨#[c]⟩,H,I.tok _,⟨_,rfl⟩,q⟩) hs
def rIx (K:PySem.W.Frag):R2:=fun x y H Q=>rIxL K x y H Q∨rIxT K x y H Q∨rIxS x y H Q
theorem ix_seq:IxR X (rIx X.K):=ix_list.or (ix_tup.or ix_str)
theorem Inv.lst {pins:List (Addr×Obj)}{σ:St}{H:Hp}{s:Shared}{p:Addr}{xs:List V}(I:Inv X pins σ H s)(h:H p=some (.lst xs)) :
  ∃(its:List Value) (n:Nat),Vals xs its∧s.heap.get? p=some {cls:=.type "list", data:=.seq its.toArray n}∧xs.length≤sizeLine:=by
 obtain⟨z,its,n,r,e⟩:=I.hok p _ h
 exact⟨its,n,r,e,z⟩
theorem slice_bounds (lo hi:Option Int)(n:Nat):(sliceBounds lo hi none n).1=((HT.sIx n 0 lo:Nat):Int)∧(sliceBounds lo hi none n).2.1=((HT.sIx n n hi:Nat):Int)∧(sliceBounds lo hi none n).2.2=1:=by
 refine⟨?_,?_,rfl⟩
 ·cases lo with
  | none=>simp[sliceBounds,HT.sIx]
  | some i =>
   simp only[sliceBounds,HT.sIx,Option.getD_none,show(1:Int) > 0 by decide,if_true]
   by_cases h:i<0
   ·simp only[h,if_true] <;>omega
   ·simp only[h,if_false] <;>omega
 ·cases hi with
  | none=>simp[sliceBounds,HT.sIx]
  | some i =>
   simp only[sliceBounds,HT.sIx,Option.getD_none,show(1:Int) > 0 by decide,if_true]
   by_cases h:i<0
   ·simp only[h,if_true] <;>omega
   ·simp only[h,if_false] <;>omega
theorem slicePick_cut (its:List Value)(lo hi:Option Int):slicePick its.toArray lo hi none=((its.drop (HT.sIx its.length 0 lo)).take (HT.sIx its.length its.length hi - HT.sIx its.length 0 lo)).toArray:=by
 obtain⟨h1,h2,h3⟩:=slice_bounds lo hi its.toArray.size
 unfold slicePick
 rw[h1,h2,h3]
 simp only[sliceRange_one,pick_run,List.size_toArray] <;>rfl
def rSlL (K:PySem.W.Frag):V→Option Int→Option Int→Hp→VK→Prop:=fun x lo hi H Q=>∃a xs,x=.ref a∧SqL K H a xs∧∀p,H p=none→Q (.ref p) (upd H p (.lst (cutV xs lo hi)))
theorem sl_list:SlR X (rSlL X.K):=by
 intro pins s σ H x v vl vu lo hi sl Q I rx hs pl pu h
 obtain⟨a,xs,rfl,hx,q⟩:=h
 cases rx
 obtain⟨its,r,ht,hz⟩:=I.list hx
 have hlen:=r.length
 refine⟨"list", _,slot_list_getitem.lookup,ht.isList.typeIs,?_⟩
 refine wpAny_getItem_list_slice ht.isList hs pl pu .none (by simp) ?_ (by rw[List.size_toArray] <;>omega)
 rw[slicePick_cut,← hlen]
 refine⟨.ref s.heap.objs.size,_,I.laid (t':=s.toks) (o:=.lst (cutV xs lo hi)) (fun b ob q=>Heap.get?_push_of_some _ q) (Nat.le_refl _) ?_,rfl,q _ (I.hok.fresh (Nat.le_refl _))⟩
 exact⟨Nat.le_trans (cutV_length xs lo hi) hz,_,0,(r.drop (HT.sIx xs.length 0 lo)).take (HT.sIx xs.length xs.length hi - HT.sIx xs.length 0 lo),Heap.get?_push_size _ rfl⟩
def flatV:V→Bool
 | .non=>true
 | .bl _=>true
 | .int _=>true
 | .str _=>true
 | _=>false
def eqV:V→V→Bool
 | .non,.non=>true
 | .bl a,.bl b=>a == b
 | .bl a,.int b=>(if a then 1 else 0) == b
 | .int a,.bl b=>a == (if b then 1 else 0)
 | .int a,.int b=>a == b
 | .str a,.str b=>a == b
 | _,_=>false
theorem eqAt_V {A:Around}{s:Shared}{y x:V}{u v:Value}(ry:RelV y u)(rx:RelV x v)(fy:flatV y=true)(fx:flatV x=true):SeqAt.EqAt A s u v (eqV y x):=by
 cases y with
 | non =>
  cases ry
  cases x with
  | non=>cases rx;exact SeqAt.EqAt.same _
  | bl b=>cases rx;exact SeqAt.EqAt.none_bool b
  | int b=>obtain⟨t,rfl⟩:=rx;exact SeqAt.EqAt.none_int b t
  | str b=>obtain⟨t,rfl⟩:=rx;exact SeqAt.EqAt.none_str b t
  | _=>exact absurd (show false=true from fx) Bool.false_ne_true
 | bl a =>
  cases ry
  cases x with
  | non=>cases rx;exact SeqAt.EqAt.bool_none a
  | bl b=>cases rx;exact SeqAt.EqAt.bool_bool a b
  | int b=>obtain⟨t,rfl⟩:=rx;exact SeqAt.EqAt.bool_int a b t
  | str b=>obtain⟨t,rfl⟩:=rx;exact SeqAt.EqAt.bool_str a b t
  | _=>exact absurd (show false=true from fx) Bool.false_ne_true
 | int a =>
  obtain⟨t',rfl⟩:=ry
  cases x with
  | non=>cases rx;exact SeqAt.EqAt.int_none a t'
  | bl b=>cases rx;exact SeqAt.EqAt.int_bool a t' b
  | int b=>obtain⟨t,rfl⟩:=rx;exact SeqAt.EqAt.int_int a t' b t
  | str b=>obtain⟨t,rfl⟩:=rx;exact SeqAt.EqAt.int_str a t' b t
  | _=>exact absurd (show false=true from fx) Bool.false_ne_true
 | str a =>
  obtain⟨t',rfl⟩:=ry
  cases x with
  | non=>cases rx;exact SeqAt.EqAt.str_none a t'
  | bl b=>cases rx;exact SeqAt.EqAt.str_bool a t' b
  | int b=>obtain⟨t,rfl⟩:=rx;exact SeqAt.EqAt.str_int a t' b t
  | str b=>obtain⟨t,rfl⟩:=rx;exact SeqAt.EqAt.str_str a t' b t
  | _=>exact absurd (show false=true from fx) Bool.false_ne_true
 | _=>exact absurd (show false=true from fy) Bool.false_ne_true
def eqU (x:V)(u:Value):Bool:=match u with
 | .none=>eqV .non x
 | .bool b=>eqV (.bl b) x
 | .int i _=>eqV (.int i) x
 | .str z _=>eqV (.str z) x
 | _=>false
theorem eqU_of {x y:V}{u:Value}(r:RelV y u)(f:flatV y=true):eqU x u=eqV y x:=by
 cases y with
 | non=>cases r;rfl
 | bl b=>cases r;rfl
 | int i=>obtain⟨t,rfl⟩:=r;rfl
 | str z=>obtain⟨t,rfl⟩:=r;rfl
 | _=>exact absurd (show false=true from f) Bool.false_ne_true
theorem any_eqU {x:V}:∀{xs:List V}{us:List Value},Vals xs us→xs.all flatV=true→us.any (eqU x)=xs.any fun y=>eqV y x
 | _,_,.nil,_=>rfl
 | y::xs,u::us,.cons r t,f=>by
  rw[List.all_cons,Bool.and_eq_true] at f
  rw[List.any_cons,List.any_cons,eqU_of r f.1,any_eqU t f.2]
theorem mem_eqAt {A:Around}{s:Shared}{x:V}{v:Value}(rx:RelV x v)(fx:flatV x=true):∀{xs:List V}{us:List Value},Vals xs us→xs.all flatV=true→∀u∈us,SeqAt.EqAt A s u v (eqU x u)
 | _,_,.nil,_=>fun u hu=>by cases hu
 | y::xs,u::us,.cons r t,f=>fun u' hu=>by
  rw[List.all_cons,Bool.and_eq_true] at f
  rcases List.mem_cons.mp hu with rfl|hu
  ·rw[eqU_of r f.1];exact eqAt_V r rx f.1 fx
  ·exact mem_eqAt rx fx t f.2 u' hu
def inV (x:V)(xs:List V):Bool:=xs.any fun y=>eqV y x
def rIn (K:PySem.W.Frag)(neg:Bool):R2:=fun x y H Q=>∃p xs,y=.ref p∧(SqL K H p xs∨SqT K H p xs)∧flatV x=true∧xs.all flatV=true∧Q (.bl (if neg then !inV x xs else inV x xs)) H
theorem op_in_seq:OpR X (compareOp .In) (rIn X.K false):=by
 intro pins s σ H x y v u Q I rx ry h
 obtain⟨p,xs,rfl,hq,fx,fs,q⟩:=h
 cases ry
 rcases hq with hq|hq
 ·obtain⟨its,r,pl,hz⟩:=I.list hq
  refine SeqAt.in_listAt (eqU x) pl.isList (fun w hw=>mem_eqAt rx fx r fs w (by simpa using hw)) ⟨.bl _,H,I,rfl,?_⟩
  rw[show its.toArray.any (eqU x)=its.any (eqU x) by simp,any_eqU r fs]
  exact q
 ·obtain⟨its,r,pl,hz⟩:=I.tuple hq
  refine SeqAt.in_tupleAt (eqU x) pl (fun w hw=>mem_eqAt rx fx r fs w (by simpa using hw)) ⟨.bl _,H,I,rfl,?_⟩
  rw[show its.toArray.any (eqU x)=its.any (eqU x) by simp,any_eqU r fs]
  exact q
theorem op_notIn_seq:OpR X (compareOp .NotIn) (rIn X.K true):=by
 intro pins s σ H x y v u Q I rx ry h
 obtain⟨p,xs,rfl,hq,fx,fs,q⟩:=h
 cases ry
 rcases hq with hq|hq
 ·obtain⟨its,r,pl,hz⟩:=I.list hq
  refine SeqAt.notIn_listAt (eqU x) pl.isList (fun w hw=>mem_eqAt rx fx r fs w (by simpa using hw)) ⟨.bl _,H,I,rfl,?_⟩
  rw[show its.toArray.any (eqU x)=its.any (eqU x) by simp,any_eqU r fs]
  exact q
 ·obtain⟨its,r,pl,hz⟩:=I.tuple hq
  refine SeqAt.notIn_tupleAt (eqU x) pl (fun w hw=>mem_eqAt rx fx r fs w (by simpa using hw)) ⟨.bl _,H,I,rfl,?_⟩
  rw[show its.toArray.any (eqU x)=its.any (eqU x) by simp,any_eqU r fs]
  exact q
theorem call_tuple_of:CallR X (.type "tuple") (fun xs H Q=>∃p ys,xs=[.ref p]∧((SqL X.K H p ys∧∀l,H l=none→Q (.ref l) (upd H l (.tup ys)))∨(SqT X.K H p ys∧Q (.ref p) H))):=by
 intro pins s σ H xs us Q I r h
 obtain⟨p,ys,rfl,h⟩:=h
 obtain⟨u,rfl,rx⟩:=vals1 r
 cases rx
 rcases h with⟨hq,q⟩|⟨hq,q⟩
 ·obtain ⟨its,r',pl,hz⟩:=I.list hq
  have hlen:=r'.length
  refine call_tuple_list pl.isList (fun h' kp=>?_) (by simp only[List.size_toArray] <;>omega)
  have I1:Inv X pins σ H {s with heap:=h'}:=I.kept (t':=s.toks) kp
  have I2:Inv X pins σ (upd H h'.objs.size (.tup ys)) {s with heap:=h'.push {cls:=.type "tuple", data:=.seq its.toArray} } :=
   I1.laid (t':=s.toks) (fun b o e=>Heap.get?_push_of_some _ e) (Nat.le_refl _) (show ObjOk X.prog X.w _ _ _ (.tup ys) from⟨hz,its,r',TupD.new _ _⟩)
  exact⟨.ref h'.objs.size,_,I2,rfl,q _ (I1.hok.fresh (Nat.le_refl _))⟩
 ·obtain⟨its,r',pl,hz⟩:=I.tuple hq
  exact call_tuple_same pl ⟨.ref p,H,I,rfl,q⟩
def tyV (K:PySem.W.Frag)(T:String)(x:V)(H:Hp):Prop:=match x with
 | .str _=>T = "str"
 | .int _=>T = "int"
 | .ref p=>(T = "list" ∧ ∃xs,SqL K H p xs)∨(T = "tuple" ∧ ∃o,K.lookup p=some o∧o.cls=.type "tuple" ∧ o.dict=none) ∨
   (T = "dict" ∧ ((∃kvs,H p=some (.dK kvs))∨∃kvs,H p=some (.dT kvs)))∨(T = "set" ∧ ∃S n,H p=some (.set S n))
 | _=>False
theorem tyV_is {pins:List (Addr×Obj)}{σ:St}{H:Hp}{s:Shared}{T:String}{x:V}{v:Value}(I:Inv X pins σ H s)(r:RelV x v)(ty:tyV X.K T x H) :
  s.TypeIs v T∧∀a,v=.ref a→∃ob,s.heap.get? a=some ob∧ob.dict=none:=by
 cases x with
 | str z =>
  obtain⟨t,rfl⟩:=r
  cases (show T = "str" from ty)
  exact⟨typeIs_str s z t,fun _ e=>nomatch e⟩
 | int i =>
  obtain⟨t,rfl⟩:=r
  cases (show T = "int" from ty)
  exact⟨typeIs_int s i t,fun _ e=>nomatch e⟩
 | ref p =>
  cases r
  rcases ty with⟨rfl,xs,hq⟩|⟨rfl,o,hk,hc,hd⟩|⟨rfl,hk⟩|⟨rfl,S,n,hk⟩
  ·obtain⟨its,_,pl,_⟩:=I.list hq
   refine⟨pl.isList.typeIs,fun a e=>?_⟩
   cases e
   obtain⟨o,n,e,c,hd,_⟩:=pl
   exact⟨o,e,hd⟩
  ·refine⟨⟨o,I.kIn p o hk,hc⟩,fun a e=>?_⟩
   cases e
   exact⟨o,I.kIn _ o hk,hd⟩
  ·have z:∃o,s.heap.get? p=some o∧o.ExactDict:=by
    rcases hk with⟨kvs,hk⟩|⟨kvs,hk⟩
    ·obtain⟨_,_,_,_,o,_,_,e,ex,_⟩:=I.hok p _ hk
     exact⟨o,e,ex⟩
    ·obtain⟨_,_,_,_,o,_,_,e,ex,_⟩:=I.hok p _ hk
     exact⟨o,e,ex⟩
   obtain⟨o,e,ex⟩:=z
   refine⟨⟨o,e,ex.1⟩,fun a e2=>?_⟩
   cases e2
   exact⟨o,e,ex.2.1⟩
  ·obtain⟨o,_,_,_,e,ex,_⟩:=I.hok p _ hk
   refine⟨⟨o,e,ex.1⟩,fun a e2=>?_⟩
   cases e2
   exact⟨o,e,ex.2.1⟩
 | _=>exact False.elim ty
def tBM (K:PySem.W.Frag)(T:String)(r:V→List V→Hp→VK→Prop)(to:TE)(t:TA):TE:=fun σ H Q=>to σ H fun x H1=>tyV K T x H1∧t σ H1 fun xs H2=>r x xs H2 Q
variable {o e:Expr}{es:List Expr}{to:TE}{t:TA}{name:Str}{apos cpos:Pos}{T id:String}{r:V→List V→Hp→VK→Prop}
theorem pe_bm (pa:PlainAttrs T)(slot:Slot T name id)(hty:typeOf (.builtin id)=pure (.type "method_descriptor"))(hm:MtR X id r)(ho:PE X o to)(ha:PA X (e::es) t)
  (hbase:attributeBase o name X.env (eval o X.env)=eval o X.env:=by rfl)
  (hfew:((backTo cpos (starEach (e::es) X.env)).all (fun x=>!x.1)&&(backToKw cpos (keywordEach [] X.env)).all (fun x=>x.1.isSome)
   && decide ((e::es).length+([]:List Keyword).length+(if ([]:List Keyword).isEmpty then 0 else 1)<30))=true:=by rfl)
  (hline:(apos.endLine == cpos.line)=true:=by rfl) (hs:starEach (e::es) X.env=(false,eval e X.env)::starEach es X.env:=by rfl) (hplain:(backTo cpos (starEach es X.env)).any (·.1)=false:=by rfl) :
  PE X (.Call (.Attribute o name apos) (e::es) [] cpos) (tBM X.K T r to t):=by
 intro pins s σ H Q I h
 refine wpAny_Call_method_late hbase hfew hline rfl (thn (ho pins s σ H _ I h) fun v s1 hq25=>?_)
 obtain⟨x,H1,I1,r1,ty,q1⟩:=hq25
 obtain⟨h1,h2⟩:=tyV_is I1 r1 ty
 refine⟨T,id,pa,slot,hty,h1,h2,?_⟩
 have hA:=ha cpos pins s1 σ H1 _ I1 q1
 rw[hs] at hA ⊢
 refine Calls.callWith_builtin (by show(false || (backTo cpos (starEach es X.env)).any (·.1))=false;rw[hplain] <;>rfl) (Calls.evalArgs_plain ?_)
 exact thn hA fun us s2 ⟨vs,H2,I2,r2,q2⟩=>hm pins s2 σ H2 x vs v us Q I2 r1 r2 q2
/- xs.append(e), list.index on a module's tuple .. are MtR facts of 06m -/
end
end L2
namespace L2
open PySem PySem.Spec PyProof.Rows
def MtM (X:Cx)(id:String)(r:V→List V→Hp→VK→Prop):Prop :=
 ∀ (pins:List (Addr×Obj)) (s:Shared) (σ:St) (H:Hp) (x:V) (xs:List V) (v:Value) (us:List Value) (Q:VK),Inv X pins σ H s→RelV x v→Vals xs us→r x xs H Q →
  wpAny (model X.prog X.w) X.A (call (.builtin id) (v::us)) (EP X pins σ Q) X.xe s
theorem Vals.one:∀{x:V}{us:List Value},Vals [x] us→∃u,us=[u]∧RelV x u:=by
 intro x us h
 cases h with
 | cons r t=>cases t;exact⟨_,rfl,r⟩
theorem Vals.two:∀{x y:V}{us:List Value},Vals [x,y] us→∃u v,us=[u,v]∧RelV x u∧RelV y v:=by
 intro x y us h
 cases h with
 | cons r t=>obtain⟨v,rfl,q⟩:=Vals.one t;exact⟨_,_,rfl,r,q⟩
theorem Vals.eraseIdx:∀{xs:List V}{us:List Value} (i:Nat),Vals xs us→Vals (xs.eraseIdx i) (us.eraseIdx i)
 | _,_,_,.nil=>.nil
 | _,_,0,.cons _ t=>t
 | _,_,i+1,.cons r t=>.cons r (Vals.eraseIdx i t)
theorem len_erase {α:Type}:∀(l:List α) (i:Nat),(l.eraseIdx i).length≤l.length
 | [],_=>Nat.le_refl _
 | _::_,0=>Nat.le_succ _
 | _::r,i+1=>Nat.succ_le_succ (len_erase r i)
section
variable {X:Cx}{pins:List (Addr×Obj)}{σ:St}{H:Hp}{s:Shared}{l b:Addr}{xs ys zs:List V}
theorem Inv.lset {its its':List Value}{n:Nat}{f:Array Value→Array Value}{t':Nat}(I:Inv X pins σ H s)(hH:H l=some (.lst xs))
  (e:s.heap.get? l=some {cls:=.type "list", data:=.seq its.toArray n}) (hf:f its.toArray=its'.toArray) (hv:Vals ys its') (hz:ys.length≤sizeLine) :
  Inv X pins σ (upd H l (.lst ys)) {s with heap:=s.heap.update l (Obj.mapSeq f),toks:=t'}:=by
 have q:=PySem.IsL.update e f
 rw[hf] at q
 refine I.write (x:=l) (e:=l) (by rw[hH];exact trivial) (.inl rfl) (fun b' u hb hu=>(Heap.get?_update_other s.heap (Obj.mapSeq f) (Ne.symm hb)).trans hu) ⟨_,q⟩ ?_
 exact⟨hz,its',_,hv,q⟩
theorem Inv.lnew {its:List Value}{t':Nat}(I:Inv X pins σ H s)(hv:Vals ys its)(hz:ys.length≤sizeLine) :
  Inv X pins σ (upd H s.heap.objs.size (.lst ys)) {s with heap:=s.heap.push {cls:=.type "list", data:=.seq its.toArray},toks:=t'} :=
 I.laid (fun _ _ q=>Heap.get?_push_of_some _ q) (Nat.le_refl _) ⟨hz,its,0,hv,Heap.get?_push_size _ rfl⟩
theorem Inv.fresh (I:Inv X pins σ H s):H s.heap.objs.size=none:=I.hok.fresh (Nat.le_refl _)
theorem Inv.lstM (I:Inv X pins σ H s)(hH:H l=some (.lst xs)):xs.length≤sizeLine∧∃(its:List Value) (n:Nat),Vals xs its∧xs.length=its.length∧s.heap.get? l=some {cls:=.type "list", data:=.seq its.toArray n}:=by
 obtain⟨z,its,n,r,e⟩:=I.hok l _ hH
 exact⟨z,its,n,r,r.length,e⟩
end
section
variable {X:Cx}
def rAppend:V→List V→Hp→VK→Prop:=fun x vs H Q=>∃l xs y,x=.ref l∧vs=[y]∧H l=some (.lst xs)∧xs.length<sizeLine∧Q .non (upd H l (.lst (xs++[y])))
theorem mt_append:MtM X "list.append" rAppend:=by
 intro pins s σ H x vs v us Q I rx rv h
 obtain⟨l,xs,y,rfl,rfl,hH,hz,q⟩:=h
 cases rx
 obtain⟨u,rfl,ru⟩:=rv.one
 obtain⟨z,its,n,r,hl,e⟩:=I.lstM hH
 refine call_meets F.slot_list_append ⟨_,e,rfl⟩ F.entry_list_append (F.args_list_append_2 _ _) (PySem.list_append l its.toArray n u (by rw[List.size_toArray];omega)) ⟨e,?_⟩
 refine⟨.non,_,I.lset (its':=its++[u]) hH e (by simp) (r.append (.cons ru .nil)) ?_,rfl,q⟩
 rw[List.length_append,List.length_singleton]
 omega
def rPopAt:V→List V→Hp→VK→Prop:=fun x vs H Q=>∃l xs i k y,x=.ref l∧vs=[.int i]∧H l=some (.lst xs)∧-(2 ^ 63)≤i∧i<2 ^ 63∧seqIndex? i xs.length=some k∧xs[k]? = some y∧Q y (upd H l (.lst (xs.eraseIdx k)))
theorem mt_popAt:MtM X "list.pop" rPopAt:=by
 intro pins s σ H x vs v us Q I rx rv h
 obtain⟨l,xs,i,k,y,rfl,rfl,hH,h1,h2,hk,hy,q⟩:=h
 cases rx
 obtain⟨u,rfl,ru⟩:=rv.one
 obtain⟨t,rfl⟩:=ru
 obtain⟨z,its,n,r,hl,e⟩:=I.lstM hH
 obtain⟨w,hw,rw'⟩:=r.get hy
 refine call_meets F.slot_list_pop ⟨_,e,rfl⟩ F.entry_list_pop (F.args_list_pop_2 _ _)
  (MeetsSeq.list_pop_at l its.toArray n i t k w (fitsIndex_both h1 h2) (by rw[List.size_toArray,← hl];exact hk) (by rw[← Array.getElem?_toList];exact hw) (by rw[List.size_toArray];omega)) ⟨e,?_⟩
 refine⟨y,_,I.lset (its':=its.eraseIdx k) hH e ?_ (r.eraseIdx k) ?_,rw',q⟩
 ·show its.toArray.eraseIdxIfInBounds k=(its.eraseIdx k).toArray
  rw[List.eraseIdxIfInBounds_toArray]
 ·have:=len_erase xs k
  omega
end
end L2
namespace L2
open PySem PySem.Spec PyProof.Rows
section
variable {κ:Type} [DecidableEq κ]
def valV (kvs:List (κ×V))(k:κ):Option V:=(kvs.find? fun kv=>decide (kv.1=k)).map (·.2)
def putK (kvs:List (κ×V))(k:κ)(v:V):List (κ×V) :=
 if (kvs.any fun kv=>decide (kv.1=k))=true then kvs.map (fun kv=>if kv.1=k then(kv.1,v) else kv) else kvs++[(k,v)]
def dropK (kvs:List (κ×V))(k:κ):List (κ×V):=kvs.filter fun kv=>decide (kv.1≠k)
theorem valV_pos {p:κ×V}{r:List (κ×V)}{k:κ}(e:p.1=k):valV (p::r) k=some p.2:=by simp[valV,List.find?_cons,e]
theorem valV_neg {p:κ×V}{r:List (κ×V)}{k:κ}(e:¬p.1=k):valV (p::r) k=valV r k:=by simp[valV,List.find?_cons,e]
theorem length_putK (kvs:List (κ×V))(k:κ)(v:V):(putK kvs k v).length≤kvs.length+1:=by
 unfold putK
 split
 ·rw[List.length_map];omega
 ·rw[List.length_append,List.length_cons,List.length_nil];omega
theorem RelO.isSome_eq {o:Option V}{u:Option Value}(r:RelO o u):o.isSome=u.isSome:=by
 cases o with
 | none=>cases u with
  | none=>rfl
  | some _=>exact(show False from r).elim
 | some _=>cases u with
  | none=>exact(show False from r).elim
  | some _=>rfl
theorem RelO.getD {o:Option V}{u:Option Value}{d:V}{d':Value}(r:RelO o u)(rd:RelV d d'):RelV (o.getD d) (u.getD d'):=by
 cases o with
 | none=>cases u with
  | none=>exact rd
  | some _=>exact(show False from r).elim
 | some _=>cases u with
  | none=>exact(show False from r).elim
  | some _=>exact r
theorem KV.val {kvs:List (κ×V)}{vs:List (κ×Value)}(r:KV kvs vs)(k:κ):RelO (valV kvs k) (valueAt vs k):=by
 unfold KV at r
 induction r with
 | nil=>exact True.intro
 | @cons p q ps qs h t ih =>
  obtain⟨h1,h2⟩:=h
  by_cases e:p.1=k
  ·have e':q.1=k:=h1.symm.trans e
   have b:valueAt (q::qs) k=some q.2:=by simp[valueAt,List.find?_cons,e']
   rw[valV_pos e,b];exact h2
  ·have e':¬q.1=k:=fun z=>e (h1.trans z)
   have b:valueAt (q::qs) k=valueAt qs k:=by simp[valueAt,List.find?_cons,e']
   rw[valV_neg e,b];exact ih
theorem KV.any {kvs:List (κ×V)}{vs:List (κ×Value)}(r:KV kvs vs)(k:κ):(kvs.any fun kv=>decide (kv.1=k))=vs.any fun kv=>decide (kv.1=k):=by
 unfold KV at r
 induction r with
 | nil=>rfl
 | cons h t ih=>rw[List.any_cons,List.any_cons,ih,h.1]
theorem KV.repl {kvs:List (κ×V)}{vs:List (κ×Value)}(r:KV kvs vs)(k:κ){y:V}{u:Value}(ry:RelV y u) :
  KV (kvs.map fun kv=>if kv.1=k then(kv.1,y) else kv) (vs.map fun kv=>if kv.1=k then(kv.1,u) else kv):=by
 unfold KV at r ⊢
 induction r with
 | nil=>exact .nil
 | @cons p q ps qs h t ih =>
  rw[List.map_cons,List.map_cons]
  refine .cons ?_ ih
  obtain⟨h1,h2⟩:=h
  by_cases e:p.1=k
  ·rw[if_pos e,if_pos (h1.symm.trans e)];exact⟨h1,ry⟩
  ·rw[if_neg e,if_neg (fun z=>e (h1.trans z))];exact⟨h1,h2⟩
theorem KV.put {kvs:List (κ×V)}{vs:List (κ×Value)}(r:KV kvs vs)(k:κ){y:V}{u:Value}(ry:RelV y u):KV (putK kvs k y) (stored vs k u):=by
 unfold putK stored
 rw[r.any k]
 by_cases e:(vs.any fun kv=>decide (kv.1=k))=true
 ·rw[if_pos e,if_pos e];exact r.repl k ry
 ·rw[if_neg e,if_neg e];exact Paired.snoc r ⟨rfl,ry⟩
theorem KV.drop {kvs:List (κ×V)}{vs:List (κ×Value)}(r:KV kvs vs)(k:κ):KV (dropK kvs k) (without vs k):=by
 unfold KV at r ⊢
 unfold dropK without
 induction r with
 | nil=>exact .nil
 | @cons p q ps qs h t ih =>
  obtain⟨h1,h2⟩:=h
  rw[List.filter_cons,List.filter_cons]
  by_cases e:p.1=k
  ·have a:¬decide (p.1≠k)=true:=by simp[e]
   have b:¬decide (q.1≠k)=true:=by simp[h1.symm.trans e]
   rw[if_neg a,if_neg b];exact ih
  ·have e':¬q.1=k:=fun z=>e (h1.trans z)
   have a:decide (p.1≠k)=true:=by simp[e]
   have b:decide (q.1≠k)=true:=by simp[e']
   rw[if_pos a,if_pos b];exact .cons ⟨h1,h2⟩ ih
theorem KV.keys {kvs:List (κ×V)}{vs:List (κ×Value)}(r:KV kvs vs):kvs.map (·.1)=vs.map (·.1):=by
 unfold KV at r
 induction r with
 | nil=>rfl
 | cons h t ih=>rw[List.map_cons,List.map_cons,ih,h.1]
theorem KV.length {kvs:List (κ×V)}{vs:List (κ×Value)}(r:KV kvs vs):kvs.length=vs.length:=Paired.length r
end
theorem kV_is {P:Program}{w:World}{k:Key}{u:Value}(r:RelV (kV k) u):(yg P w).is k u=true:=by
 cases k with
 | inl i=>obtain⟨t,e⟩:=(show ∃t,u=Value.int i t from r);subst e;exact mixKind_int P w i t
 | inr x=>obtain⟨t,e⟩:=(show ∃t,u=Value.str x t from r);subst e;exact mixKind_str P w x t
theorem items_are {P:Program}{w:World}:∀{ks:List Key}{us:List Value},Vals (ks.map kV) us→ItemsAre (yg P w) ks us
 | [],_,r=>by rw[List.map_nil] at r;cases r;exact .nil
 | k::ks,_,r=>by
  rw[List.map_cons] at r
  cases r with
  | cons h t=>exact .cons (kV_is h) (items_are t)
abbrev KT (H:Hp):List (List Key×V)→List (List Key×Addr×Value)→Prop:=Paired fun p q=>p.1=q.1∧H q.2.1=some (.tup (p.1.map kV))∧RelV p.2 q.2.2
theorem KT.val {H:Hp}{kvs:List (List Key×V)}{xs:List (List Key×Addr×Value)}(r:KT H kvs xs)(k:List Key):RelO (valV kvs k) ((atKey xs k).map (·.2)):=by
 induction r with
 | nil=>exact True.intro
 | @cons p q ps qs h t ih =>
  obtain⟨h1,_,h2⟩:=h
  by_cases e:p.1=k
  ·have e':q.1=k:=h1.symm.trans e
   have b:atKey (q::qs) k=some q.2:=by simp[atKey,List.find?_cons,e']
   rw[valV_pos e,b];exact h2
  ·have e':¬q.1=k:=fun z=>e (h1.trans z)
   have b:atKey (q::qs) k=atKey qs k:=by simp[atKey,List.find?_cons,e']
   rw[valV_neg e,b];exact ih
section
variable {P:Program}{w:World}{H:Hp}{h:Heap}{a:Addr}
theorem rd_of {u:HO}(ok:HOk P w H h)(e:Rd H a u):ObjOk P w H h a u:=e.ok ok
theorem dk_rd {kvs:List (Key×V)}(ok:HOk P w H h)(e:Rd H a (.dK kvs)):kvs.length≤sizeLine∧(a == sysModules)=false∧∃vs,KV kvs vs∧h.DictOf (yg P w) a vs :=
 show ObjOk P w H h a (.dK kvs) from rd_of ok e
theorem key_of {ks:List Key}(ok:HOk P w H h)(e:H a=some (.tup (ks.map kV))):(tupleKind (yg P w)).is h ks a:=by
 obtain⟨_,its,r,o,h1,h2,⟨n,h3⟩,_⟩:=(show ObjOk P w H h a (.tup (ks.map kV)) from ok a _ e)
 exact⟨o,its.toArray,n,h1,h2,h3,by simpa using items_are r⟩
theorem dt_rd {kvs:List (List Key×V)}(ok:HOk P w H h)(e:Rd H a (.dT kvs)):kvs.length≤sizeLine∧(a == sysModules)=false ∧
  ∃xs,KT H kvs xs∧h.DictOfH (tupleKind (yg P w)) a xs:=by
 obtain⟨z,y,xs,r,o,es,ep,h1,h2,h3,h4,h5⟩:=(show ObjOk P w H h a (.dT kvs) from rd_of ok e)
 refine⟨z,y,xs,r,o,es,ep,h1,h2,h3,h4,fun x hx=>?_,h5⟩
 have all:∀{l:List (List Key×V)}{m:List (List Key×Addr×Value)},KT H l m→∀x∈m,(tupleKind (yg P w)).is h x.1 x.2.1:=by
  intro l m q
  induction q with
  | nil=>intro x hx;exact nomatch hx
  | @cons p q ps qs hq t ih =>
   intro x hx
   rcases List.mem_cons.mp hx with e|hx
   ·subst e
    exact key_of ok (by rw[← hq.1];exact hq.2.1)
   ·exact ih x hx
 exact all r x hx
end
def DGet (H:Hp)(a:Addr)(y:V)(r:Option V):Prop :=
 (∃kvs k,Rd H a (.dK kvs)∧y=kV k∧r=valV kvs k)∨∃kvs k b,Rd H a (.dT kvs)∧y=.ref b∧H b=some (.tup (k.map kV))∧r=valV kvs k
theorem DGet.k {H:Hp}{a:Addr}{kvs:List (Key×V)}{k:Key}(e:H a=some (.dK kvs)):DGet H a (kV k) (valV kvs k):=.inl ⟨kvs,k,.inl e,rfl,rfl⟩
section
variable {X:Cx}{pins:List (Addr×Obj)}{σ:St}{H:Hp}{s:Shared}{a:Addr}{y v:V}{u r:Value}{o:Option V}{A:Around}{E:Value→Shared→Prop}
theorem Inv.big (I:Inv X pins σ H s):sysModules<s.heap.objs.size:=by
 have h:mainGlobals<s.heap.objs.size:=(I.mod.glob.keeps I.bk).lt
 exact Nat.lt_trans (by decide) h
theorem d_getItem {Q:Value→Shared→Prop}(hu:A.units+1<cLine)(I:Inv X pins σ H s)(g:DGet H a y (some v))(ry:RelV y u)(h:∀w' s',Inv X pins σ H s'→RelV v w'→Q w' s') :
  wpAny (model X.prog X.w) A (getItem (.ref a) u) Q E s:=by
 rcases g with⟨kvs,k,e,ey,l⟩|⟨kvs,k,b,e,ey,eb,l⟩
 ·subst ey
  obtain⟨z,hd,vs,rel,dd⟩:=dk_rd I.hok e
  obtain⟨w',hw,rw'⟩:=RelO.some_of (v:=v) (o:=valueAt vs k) (by rw[l];exact rel.val k)
  exact wpAny_getItem_of (kV_is ry) dd.mapOf hw (h w' _ (I.tok _) rw')
 ·subst ey
  cases (show u=Value.ref b from ry)
  obtain⟨z,hd,xs,rel,dd⟩:=dt_rd I.hok e
  obtain⟨w',hw,rw'⟩:=RelO.some_of (v:=v) (o:=(atKey xs k).map (·.2)) (by rw[l];exact rel.val k)
  obtain⟨p,hp,hp2⟩:=Option.map_eq_some_iff.mp hw
  refine wpAny_getItem_heap (tupleKind_room_in1 hu) (key_of I.hok eb) dd hp ?_
  rw[hp2]
  exact h w' _ (I.tok _) rw'
theorem d_notIn {Q:Value→Shared→Prop}(hu:A.units+1<cLine)(I:Inv X pins σ H s)(g:DGet H a y o)(ry:RelV y u)(h:∀s',Inv X pins σ H s'→Q (.bool (!o.isSome)) s') :
  wpAny (model X.prog X.w) A (compareOp .NotIn u (.ref a)) Q E s:=by
 rcases g with⟨kvs,k,e,ey,l⟩|⟨kvs,k,b,e,ey,eb,l⟩
 ·subst ey
  obtain⟨z,hd,vs,rel,dd⟩:=dk_rd I.hok e
  refine wpAny_notIn_of (kV_is ry) hd dd.mapOf ?_
  rw[← (rel.val k).isSome_eq,← l]
  exact h _ (I.tok _)
 ·subst ey
  cases (show u=Value.ref b from ry)
  obtain⟨z,hd,xs,rel,dd⟩:=dt_rd I.hok e
  refine wpAny_notIn_heap (tupleKind_room_in1 hu) (key_of I.hok eb) hd dd ?_
  have q:=(rel.val k).isSome_eq
  rw[Option.isSome_map] at q
  rw[← q,← l]
  exact h _ (I.tok _)
end
def NoSl (i:Expr):Prop:=∀ov iv,subscripted i false ov iv=operate [ov,iv] (getItem ov iv)
theorem subD_of {prog:Program}{w:World}{A:Around}{E:Value→Shared→Prop}{s:Shared}{env:Env}{value slice:Expr}{pos:Pos}{T id:String}{Q:Value→Shared→Prop}
  (hl:typeLookup (.type T) "__getitem__" = pure (some (.builtin id))) (hs:NoSl slice)
  (h:wpAny (model prog w) A (eval value env) (fun o s₁=>wpAny (model prog w) A (eval slice env) (fun i s₂=>s₂.TypeIs o T∧wpAny (model prog w) A (getItem o i) Q E s₂) E s₁) E s) :
  wpAny (model prog w) A (eval (.Subscript value slice pos) env) Q E s:=by
 refine Subscript_ (wpAny_mono h (fun o s₁ h₁=>wpAny_mono h₁ (fun i s₂ h₂=>?_) fun _ _ x=>x) fun _ _ x=>x)
 obtain⟨hT,h₂⟩:=h₂
 unfold subscriptTail
 refine wpAny_bind ?_
 rw[getitemInPython_of_ne hT.not_modules]
 refine wpAny_bind (wpAny_specialOf hT hl ?_)
 have fin:wpAny (model prog w) A (subscripted slice false o i) (fun r s₃=>wpAny (model prog w) A (letTemporaryGo value o r >>= fun _=>pure r) Q E s₃) E s₂:=by
  rw[hs o i]
  exact wpAny_operating (wpAny_mono h₂ (fun r s₃ h₃=>wpAny_bind (wpAny_letTemporaryGo (wpAny_pure h₃))) fun _ _ x=>x)
 first
  | exact wpAny_pure (wpAny_bind fin)
  | exact wpAny_bind (wpAny_pure (wpAny_bind fin))
  | exact wpAny_bind fin
theorem dict_typeIs {X:Cx}{pins:List (Addr×Obj)}{σ:St}{H:Hp}{s:Shared}{a:Addr}{y:V}{o:Option V}(I:Inv X pins σ H s)(g:DGet H a y o):s.TypeIs (.ref a) "dict" := by
 rcases g with⟨kvs,k,e,_,_⟩|⟨kvs,k,b,e,_,_,_⟩
 ·obtain⟨_,_,vs,_,dd⟩:=dk_rd I.hok e
  exact dd.typeIs
 ·obtain⟨_,_,xs,_,dd⟩:=dt_rd I.hok e
  exact dd.typeIs
def tDGet (td ty:TE):TE:=fun σ H Q=>td σ H fun x H1=>ty σ H1 fun y H2=>∃a v,x=.ref a∧DGet H2 a y (some v)∧Q v H2
def tDNotIn (ty td:TE):TE:=fun σ H Q=>ty σ H fun y H1=>td σ H1 fun x H2=>∃a o,x=.ref a∧DGet H2 a y o∧Q (.bl (!o.isSome)) H2
section
variable {X:Cx}{o i e value:Expr}{pos pos' tpos:Pos}{td ty tv:TE}
theorem pe_dget (hu:X.A.units+1<cLine)(ho:PE X o td)(hi:PE X i ty)(hs:NoSl i):PE X (.Subscript o i pos) (tDGet td ty):=by
 intro pins s σ H Q I h
 refine subD_of PySem.F.slot_dict_getitem.lookup hs (thn (ho pins s σ H _ I h) fun u s1 ⟨x,H1,I1,rx,q1⟩=>thn (hi pins s1 σ H1 _ I1 q1) fun iv s2 hq26=>?_)
 obtain⟨y,H2,I2,ry,a,v,ex,g,q2⟩:=hq26
 subst ex
 obtain rfl:u=Value.ref a:=rx
 exact⟨dict_typeIs I2 g,d_getItem hu I2 g ry fun w' s3 I3 rw'=>⟨v,H2,I3,rw',q2⟩⟩
theorem pc_dnotin (hu:X.A.units+1<cLine)(hi:PE X i ty)(ho:PE X o td):PC X .NotIn i o (tDNotIn ty td):=by
 intro pins s σ H Q I h
 refine thn (hi pins s σ H _ I h) fun iv s1 ⟨y,H1,I1,ry,q1⟩=>thn (ho pins s1 σ H1 _ I1 q1) fun u s2 hq27=>?_
 obtain⟨x,H2,I2,rx,a,ov,ex,g,q2⟩:=hq27
 subst ex
 obtain rfl:u=Value.ref a:=rx
 exact d_notIn hu I2 g ry fun s3 I3=>⟨.bl (!ov.isSome),H2,I3,rfl,q2⟩
end
end L2
namespace Att
open PySem PySem.W PySem.Calls PyProof.Rows
theorem ints_of_wellAll {P:Params}{h:Heap}:∀(ns:List Int) (vs:List Value),WellAll P h vs (ns.map WData.int)→IntsAre vs ns:=by
 intro ns
 induction ns with
 | nil =>
  intro vs w
  rw[List.map_nil] at w
  cases w
  exact .nil
 | cons n ns ih =>
  intro vs w
  rw[List.map_cons] at w
  cases w with
  | cons a b =>
   cases a
   exact .cons _ _ (ih _ b)
theorem script_of {l:OpenLaw}{n:Nat}(hn:l.most=some n){P:Params}{h:Heap}{args:List WData}{vals:List Value}
  (hpre:l.row.toRowW.claim.pre args=true) (hwl:WellAll P h vals args) :
  ∃a vs ns,vals=[Value.ref a]∧args=[WData.list (ns.map WData.int)]∧h.get? a=some {cls:=.type "list", data:=.seq vs.toArray}∧IntsAre vs ns∧ns.length≤n:=by
 have hsh:WShape.hasAll [] args [.list .int]=true:=(pre_splitW hpre).1
 have hc:l.pre.holds [] {args:=args}=true:=(pre_splitW hpre).2
 obtain⟨d,r,rfl,h1,h2⟩:=hasAllW_cons hsh
 obtain rfl:=hasAllW_nil h2
 obtain⟨xs,rfl,h3⟩:=hasW_list h1
 obtain⟨ns,rfl⟩:=items_int h3
 have hlen:ns.length≤n:=by
  unfold OpenLaw.pre at hc
  have h4:(WTm.not (.lt (.lit (.int (n:Int))) (.len (.arg 0)))).holds [] {args:=[.list (ns.map .int)]}=true:=by
   have h4:=(holds_andW hc).1
   rw[hn] at h4
   exact h4
  have h5:=condW_of h4 (w_not (w_lt w_lit (w_len_list (w_arg rfl))))
  rw[List.length_map] at h5
  refine Nat.le_of_not_lt fun q=>?_
  have q':(n:Int)<((ns.length:Nat):Int):=by omega
  first
   | (rw[decide_eq_true q'] at h5;exact absurd h5 (by decide))
   | (simp at h5;omega)
 cases hwl with
 | cons w1 w2 =>
  cases w2
  cases w1 with
  | list ho hall=>exact⟨_,_,ns,rfl,rfl,ho,ints_of_wellAll ns _ hall,hlen⟩
theorem post_true (l:OpenLaw)(args:List WData):l.row.toRowW.claim.post args (.bool true) args=true :=
 postW_of (r:=l.row.toRowW) (X:=(true == true))
  (show WShape.has [] (.bool true) .bool=true by first|rfl|decide|simp[WShape.has,WShape.arms,WShape.armsAll])
  (show(WTm.eq .res (.lit (.bool true))).value [] {args:=args,res:=some (.bool true),after:=args}=some (.bool (true == true)) from w_eq_bool (w_res rfl) w_lit) rfl
theorem attach_call {l:OpenLaw}{n:Nat}{q:Program}{loose:List Str}{XP:(Str→Option Value)→Heap→Prop}{YP:World→Heap→Prop}{d:DefRec}
  (hn:l.most=some n) (hdf:d.params.defaults=[])
  (call:∀(w:World) (s₀ s₁:Shared) (mg mb:Str→Option Value) (fa:Addr) (o:Obj) (pm cd doc:Value) (a:Addr) (vs:List Value) (ns:List Int),
   Ground q loose [] XP w s₀ mg mb s₁.heap→YP w s₁.heap →
   s₁.heap.get? fa=some o→o.data=.func (docDef d.name d.params d.body d.scope pm cd doc)→s₁.heap.CodeRec cd d.name→mg d.name=some (.ref fa) →
   s₁.heap.get? a=some {cls:=.type "list", data:=.seq vs.toArray}→IntsAre vs ns→ns.length≤n→s₁.gens = #[] →
   codeAny (model l.prog w) callerA (.call (.ref fa) ⟨[.ref a],[]⟩) (fun r s'=>r=.ok (.ret (.bool true))∧OldK s₁.heap s'.heap∧s'.os=s₁.os∧AllBare s'.gens) s₁) :
  WalkO q loose XP YP l.row.toRowW d [] (fun f vs=>PySem.call f vs):=by
 intro w s₀ s₁ mg mb G Y fa o pm cd doc dV kV ho hd hcd hD hmg hg args vals as hpre hlay hrd hwl hlo
 obtain rfl:dV=.none:=Dflts.none hD hdf
 obtain rfl:kV=.none:=Dflts.noKw hD
 obtain⟨a,vs,ns,rfl,rfl,hobj,hints,hlen⟩:=script_of hn hpre hwl
 refine enter_call (codeAny_mono (call w s₀ s₁ mg mb fa o pm cd doc a vs ns G Y ho (fd_plain hd) hcd hmg hobj hints hlen hg) fun r s' hq=>?_)
 obtain⟨rfl,h2,h3,h4⟩:=hq
 exact⟨.inl ⟨.bool true,.bool true,[],rfl,fun _=>rfl,.bool true,post_true l _,fun _=>⟨List.Pairwise.nil,fun _ hm=>(nomatch hm)⟩⟩,h2,h3,h4⟩
section
variable {prog:Program}{w:World}{A:Around}{E:Value→Shared→Prop}{s:Shared}{K:Frag}
end
end Att
namespace L2
open PySem PySem.Spec PyProof.Rows
theorem vals_ints:∀{vs:List Value}{ns:List Int},IntsAre vs ns→Vals (ns.map V.int) vs
 | _,_,.nil=>.nil
 | _,_,.cons n t h=>.cons ⟨t,rfl⟩ (vals_ints h)
def Only (H:Hp):Prop:=∀b,H b=none∨∃o xs,H b=some (.frz o (.lst xs))
theorem law_call {P:Program}{w:World}{K:PySem.W.Frag}{mg mb:Str→Option Value}{CX:CXT}{k:Nat}{fa a:Addr}{fd:FuncData}{x:Str}{sp:Sp}{s₁:Shared}{vs:List Value}{ns:List Int}
  (KX:K.In s₁.heap) (hns:s₁.heap.Ns mainGlobals mg) (hb:s₁.heap.Ns builtinsNs mb) (hbb:∀x:Str,x ≠ "__name__" → mb x=bootBuiltins x) (hlim:s₁.heap.NoLimit) (hg:s₁.gens = #[])
  (ha:s₁.heap.get? a=some {cls:=.type "list", data:=.seq vs.toArray}) (hi:IntsAre vs ns) (hl:ns.length≤sizeLine) (hr:Room k callerA)
  (F:∀base:Heap,K.In base→base.Ns mainGlobals mg→FnOk P w K mg base CX k fa fd [x] sp) (hbind:∀(s:Shared) (u:Value),BindsTo s fd ⟨[u],[]⟩ [(x,u)])
  (hsp:∀H:Hp,Only H→SqL K H a (ns.map V.int)→sp [.ref a] H (fun v _=>v=.bl true) fun _ _ _=>False)
  (hCX:∀H e s',CX [] H s₁ (fun _ _ _=>False) e s'→False) :
  codeAny (model P w) callerA (.call (.ref fa) ⟨[.ref a],[]⟩) (fun r s'=>r=.ok (.ret (.bool true))∧OldK s₁.heap s'.heap∧s'.os=s₁.os∧AllBare s'.gens) s₁:=by
 have rv:=vals_ints hi
 have lenV:=hi.length
 have core:∀H:Hp,Only H→SqL K H a (ns.map V.int)→HOk P w H s₁.heap→(∀b,H b≠none→b=a)→(H a≠none→K.lookup a=none) →
   codeAny (model P w) callerA (.call (.ref fa) ⟨[.ref a],[]⟩) (fun r s'=>r=.ok (.ret (.bool true))∧OldK s₁.heap s'.heap∧s'.os=s₁.os∧AllBare s'.gens) s₁:=by
  intro H hO hS hok hA hK
  have base_of:∀{b:Addr}{o:Obj},s₁.heap.get? b=some o→H b=none→(hidT s₁.heap H).get? b=some o:=fun e n=>hidT_get e n
  have noA:∀{b:Addr}{o:Obj}{es:Array DictEntry}{ep:Nat},s₁.heap.get? b=some o→o.data=.dict es ep→H b=none:=fun {b o es ep} e d=>by
   cases q:H b with
   | none=>rfl
   | some u =>
    have e':b=a:=hA b (by rw[q];simp)
    subst e'
    rw[ha] at e;cases e
    have d':Data.seq vs.toArray _=Data.dict es ep:=d
    cases d'
  have nsK:∀{b:Addr}{m:Str→Option Value},s₁.heap.Ns b m→(hidT s₁.heap H).Ns b m:=fun {b m} ⟨o,es,ep,e,d,r⟩=>⟨o,es,ep,base_of e (noA e d),d,r⟩
  have hKb:K.In (hidT s₁.heap H):=fun b o e=>base_of (KX b o e) (by
   cases q:H b with
   | none=>rfl
   | some u =>
    have e':b=a:=hA b (by rw[q];simp)
    subst e'
    rw[hK (by rw[q];simp)] at e;cases e)
  have hM:Mod K mg (hidT s₁.heap H):=⟨hKb,nsK hns,⟨mb,nsK hb,hbb⟩,let ⟨mc,h1,h2⟩:=hlim;⟨mc,nsK h1,h2⟩⟩
  have e0:Env0 P w K mg (hidT s₁.heap H) callerA [] s₁ H:=⟨rfl,hM,fun b o e=>of_hidT e,Nat.le_of_eq (hidT_size _ _),trivial,fun b hb=>absurd (show b∈([]:List Addr) from hb) (by simp),hok,.of_eq hg⟩
  refine codeAny_mono ((F _ hKb (nsK hns)).run callerA [] s₁ H ⟨[.ref a],[]⟩ [.ref a] [.ref a] _ _ hr e0 (hbind s₁ (.ref a)) (.cons rfl .nil) (hsp H hO hS)) fun r s' h=>?_
  cases r with
  | error e=>exact(hCX H e s' h).elim
  | ok fl =>
   cases fl with
   | next=>exact False.elim h
   | brk=>exact False.elim h
   | cont=>exact False.elim h
   | ret u =>
    obtain⟨v,H',os,bare,un,hok',r',q⟩:=h
    have q':v=.bl true:=q
    subst q'
    obtain rfl:u=Value.bool true:=r'
    refine⟨rfl,OldK.of_keep fun b o e=>?_,os,bare⟩
    cases q:H b with
    | none=>exact un.keep b o e q (by intro z;exact absurd (show b∈([]:List Addr) from z) (by simp)) (by simp)
    | some u =>
     rcases hO b with z|⟨ob,xs,z⟩
     ·rw[q] at z;cases z
     ·have z2:=un.frzs b ob _ z
      obtain⟨e1,_⟩:=hok b _ z
      obtain⟨e2,_⟩:=hok' b _ z2
      rw[e] at e1;cases e1
      exact e2
 cases hk:K.lookup a with
 | some o =>
  have e:=KX a o hk
  rw[ha] at e
  cases e
  refine core (fun _=>none) (fun _=>.inl rfl) (.inr ⟨_,vs.toArray,_,hk,rfl,rfl,rfl,by rw[List.size_toArray,lenV];exact hl,by simpa using rv⟩) (fun b u z=>by have z':(none:Option HO)=some u:=z;cases z') (fun b z=>absurd rfl z) fun z=>absurd rfl z
 | none =>
  refine core (fun b=>if b=a then some (.frz {cls:=.type "list", data:=.seq vs.toArray} (.lst (ns.map V.int))) else none) (fun b=>?_) (.inl (.inr ⟨{cls:=.type "list", data:=.seq vs.toArray},if_pos rfl⟩)) (fun b u z=>?_) (fun b z=>?_) fun _=>hk
  ·by_cases hb:b=a
   ·exact .inr ⟨_,_,if_pos hb⟩
   ·exact .inl (if_neg hb)
  ·by_cases hb:b=a
   ·have z':=(if_pos hb).symm.trans z
    cases z'
    subst hb
    exact⟨ha,by rw[List.length_map];exact hl,vs,_,rv,ha⟩
   ·have z':=(if_neg hb).symm.trans z
    cases z'
  ·by_cases hb:b=a
   ·exact hb
   ·exact absurd (if_neg hb) z
end L2
namespace L2
open PySem PySem.Spec PyProof.Rows
theorem walk_of {l:PySem.W.OpenLaw}{n k:Nat}{q:Program}{loose:List Str}{XP:(Str→Option Value)→Heap→Prop}{YP:World→Heap→Prop}{d:DefRec}{K:Params→PySem.W.Frag}{CX:World→CXT}{sp:World→Sp}{x:Str}
  (hn:l.most=some n) (hn2:n≤sizeLine) (hdf:d.params.defaults=[]) (hr:Room k callerA)
  (hY:∀(w:World) (h:Heap),YP w h→(K w.params).In h)
  (F : ∀(w:World) (mg:Str→Option Value) (fa:Addr) (h:Heap),(K w.params).In h→h.Ns mainGlobals mg→mg d.name=some (.ref fa) →
   ∃ fd:FuncData,(∀(s:Shared) (u:Value),BindsTo s fd ⟨[u],[]⟩ [(x,u)]) ∧
    ∀base:Heap,(K w.params).In base→base.Ns mainGlobals mg→FnOk l.prog w (K w.params) mg base (CX w) k fa fd [x] (sp w))
  (hsp:∀(w:World) (H:Hp) (a:Addr) (ns:List Int),ns.length≤n→Only H→SqL (K w.params) H a (ns.map V.int)→sp w [.ref a] H (fun v _=>v=.bl true) fun _ _ _=>False)
  (hCX:∀(w:World) (H:Hp) (s:Shared) (e:Value) (s':Shared),CX w [] H s (fun _ _ _=>False) e s'→False) :
  PySem.W.WalkO q loose XP YP l.row.toRowW d [] (fun f vs=>PySem.call f vs):=by
 refine Att.attach_call hn hdf fun w s₀ s₁ mg mb fa o pm cd doc a vs ns G Y ho hd hcd hmg hobj hints hlen hg=>?_
 have KX:=hY w _ Y
 obtain⟨fd,hb,hF⟩:=F w mg fa _ KX G.T.g hmg
 exact law_call KX G.T.g G.T.b G.T.builtins G.T.nolimit hg hobj hints (Nat.le_trans hlen hn2) hr hF hb (fun H hO hS=>hsp w H a ns hlen hO hS) fun H e s'=>hCX w H s₁ e s'
end L2
namespace L2
open PySem PySem.Spec PyProof.Rows
def defArgs (s:Stmt):Arguments:=match s with
 | .FunctionDef _ a _ _ _ _ _ _ _ _=>a
 | _=>{posonlyargs:=[],args:=[],vararg:=none,kwonlyargs:=[],kw_defaults:=[],kwarg:=none,defaults:=[]}
def defBody (s:Stmt):List Stmt:=match s with
 | .FunctionDef _ _ b _ _ _ _ _ _ _=>b
 | _=>[]
def zu (s:Stmt):Scope:=match s with
 | .FunctionDef _ _ _ _ _ _ sc _ _ _=>sc
 | _=>{kind:=.function,names:=[],isGenerator:=false,isCoroutine:=false}
abbrev CX0:CXT:=fun _ _ _ _ _ _=>False
abbrev E0:XK:=fun _ _ _=>False
structure Fun (K:PySem.W.Frag)(x qual:Str)(st:Stmt)(f:Addr)(fd:FuncData):Prop where
 ex:∃(oc:Value) (od:Option Addr) (kV doc pm:Value) (an:Option Addr) (cdv ct:Value) (osl:Array (Option Value)),
  fd=PySem.W.fnOf x qual (defArgs st) (defBody st) (zu st) .none kV doc pm an cdv ct∧K.lookup f=some ⟨oc,od,.func fd,osl⟩∧PySem.W.codeIn K cdv qual=true
 kp:PySem.W.keepIn K (.ref f)=true
section
variable {P:Program}{w:World}{K:PySem.W.Frag}{mg:Str→Option Value}{base:Heap}
theorem Fun.ok {x qual:Str}{st:Stmt}{f:Addr}{fd:FuncData}{N ps:List Str}{k:Nat}{sp:Sp}(F:Fun K x qual st f fd)(S:FnScope N ps (zu st))(len:∀vs H Q E,sp vs H Q E→vs.length=ps.length)
  (hbody:∀(cdv:Value) (A:Around) (outer:List Env) (s:Shared) (H:Hp) (vs:List V) (Q:VK) (E:XK),Room k (A.deeper (envOfC qual (zu st) s.heap.objs.size f cdv))→sp vs H Q E →
   ∃t,PSs (cxOf CX0 P w K mg base N qual (zu st) f cdv A outer s H E).nox (defBody st) t∧t {nx:=fun _ H'=>Q .non H',rt:=Q} (start N vs) H):FnOk P w K mg base CX0 (k+1) f fd ps sp:=by
 obtain⟨oc,od,kV,doc,pm,an,cdv,ct,osl,rfl,lk,hcd⟩:=F.ex
 refine fn_of lk hcd S len fun A outer s H vs Q E hr hsp=>?_
 obtain⟨t,h,q⟩:=hbody cdv A outer s H vs Q E hr hsp
 exact⟨t,h.nox,q⟩
theorem Fun.binds {x qual:Str}{st:Stmt}{f:Addr}{fd:FuncData}{ps:List Str}(F:Fun K x qual st f fd)
  (h:∀(kV doc pm:Value) (an:Option Addr) (cdv ct:Value) (us:List Value),us.length=ps.length→bindArgs (PySem.W.fnOf x qual (defArgs st) (defBody st) (zu st) .none kV doc pm an cdv ct) ⟨us,[]⟩=pure (ps.zip us)):Binds K fd ps []:=by
 obtain⟨oc,od,kV,doc,pm,an,cdv,ct,osl,rfl,lk,hcd⟩:=F.ex
 exact .all (h kV doc pm an cdv ct)
theorem fun_mk {x qual:Str}{st:Stmt}{f:Addr}{oc:Value}{od an:Option Addr}{osl:Array (Option Value)}{kV doc pm cdv ct:Value}(l:K.lookup f=some ⟨oc,od,.func (PySem.W.fnOf x qual (defArgs st) (defBody st) (zu st) .none kV doc pm an cdv ct),osl⟩)
  (c:PySem.W.codeIn K cdv qual=true) (k:PySem.W.keepIn K (.ref f)=true):Fun K x qual st f (PySem.W.fnOf x qual (defArgs st) (defBody st) (zu st) .none kV doc pm an cdv ct):=⟨⟨oc,od,kV,doc,pm,an,cdv,ct,osl,rfl,l,c⟩,k⟩
end
theorem hu_of {A:Around}{k:Nat}(hr:Room k A):A.units+1<cLine:=Nat.lt_of_le_of_lt (Nat.add_le_add_left (by decide:1≤64) _) hr.units
section
variable {X:Cx}
theorem pv (i:Nat){x:Str}{pos:Pos}(hN:X.N[i]? = some x:=by rfl)(hv:Vis X.env.scope x:=by first|exact Or.inl rfl|exact Or.inr (Or.inl rfl)|exact Or.inr (Or.inr rfl))(hd:(x == ("__debug__" : Str))=false:=by decide)
  (hcd:(x == ("__classdict__" : Str))=false:=by decide):PE X (.Name x pos) (tVar i):=pe_var hN hv hd hcd
end
def Same (H H':Hp):Prop:=∀b o,H b=some o→H' b=some o
theorem Same.refl (H:Hp):Same H H:=fun _ _ h=>h
theorem Same.trans {H H1 H2:Hp}(a:Same H H1)(b:Same H1 H2):Same H H2:=fun c o h=>b c o (a c o h)
theorem Same.free {H H':Hp}(e:Same H H'){l:Addr}(h:H' l=Option.none):H l=Option.none:=by
 cases q:H l with
 | none=>rfl
 | some o =>
  rw[e l o q] at h
  cases h
theorem Same.seq {K:PySem.W.Frag}{H H':Hp}{a:Addr}{xs:List V}(e:Same H H')(h:SqL K H a xs):SqL K H' a xs:=by
 rcases h with(h|⟨o,h⟩)|h
 ·exact .inl (.inl (e _ _ h))
 ·exact .inl (.inr ⟨o,e _ _ h⟩)
 ·exact .inr h
end L2
namespace My
def low (u d:Int):Int×Int:=(u / (Int.gcd u d:Int),d / (Int.gcd u d:Int))
end My
namespace Zp
open PySem
section
variable {prog:Program}{w:World}{A:Around}{E:Value→Shared→Prop}{s:Shared}
theorem nextOf_tuple_item {it t:Addr}{i:Nat}{items}{x:Value}{Q:Value→Shared→Prop}(hit:s.heap.IsTupleIter it t i)
  (ht:s.heap.IsTuple t items) (hx:items[i]? = some x)
  (hQ:∀h',h'.IsTupleIter it t (i+1)→Heap.SameBut it s.heap h'→Q x {s with heap:=h'}) :
  wpAny (model prog w) A (Builtin.SmallTypes.nextOf (.ref it)) Q E s:=by
 obtain⟨o,ho,hc,hd⟩:=id hit
 obtain⟨ol,hol,_,nl,hdl⟩:=ht
 unfold Builtin.SmallTypes.nextOf
 refine wpAny_bind (wpAny_callSpecial?_slot (name:=Str.ofString "__next__") hit.typeIs F.slot_tuple_iterator_next
  (wpAny_call_entry F.slot_tuple_iterator_next hit.typeIs F.entry_tuple_iterator_next ?_ (F.args_tuple_iterator_next_1 _)))
 show wpAny _ _ (field (.ref it) 0 >>= _) _ _ s
 refine wpAny_bind (wpAny_field ho hd (x:=.ref t) rfl ?_)
 show wpAny _ _ (if (Value.ref t == Value.none)=true then _ else _) _ _ s
 rw[if_neg (show ¬((Value.ref t == Value.none)=true) from Bool.false_ne_true)]
 show wpAny _ _ (field (.ref it) 1 >>= _) _ _ s
 refine wpAny_bind (wpAny_field ho hd (x:=.int i 0) rfl ?_)
 show wpAny _ _ (seqItems? (.ref t) >>= _) _ _ s
 refine wpAny_bind (wpAny_seqItems hol hdl ?_)
 simp only[Int.toNat_natCast,hx]
 refine wpAny_bind (wpAny_setField ho hd (by simp) (wpAny_pure ⟨x,rfl,wpAny_pure (hQ _ ?_ (Heap.SameBut.update ..))⟩))
 exact ⟨_,Heap.get?_update_self _ ho (Obj.isFreed_of_fields (Obj.data_mapFields hd _)),(Obj.cls_mapFields ..).trans hc,by
  rw[Obj.data_mapFields hd];simp[rawInt]⟩
theorem nextOf_tuple_end {it t:Addr}{i:Nat}{items}{Q:Value→Shared→Prop}(hh:A.handled=none)
  (hit:s.heap.IsTupleIter it t i) (ht:s.heap.IsTuple t items) (hx:items[i]? = none)
  (hE:∀h' e,Heap.ExtBut it s.heap h'→(∃o,h'.get? e=some o∧o.cls=.type "StopIteration")→E (.ref e) {s with heap:=h'}) :
  wpAny (model prog w) A (Builtin.SmallTypes.nextOf (.ref it)) Q E s:=by
 obtain⟨o,ho,hc,hd⟩:=id hit
 obtain⟨ol,hol,_,nl,hdl⟩:=ht
 unfold Builtin.SmallTypes.nextOf
 refine wpAny_bind (wpAny_callSpecial?_slot (name:=Str.ofString "__next__") hit.typeIs F.slot_tuple_iterator_next
  (wpAny_call_entry F.slot_tuple_iterator_next hit.typeIs F.entry_tuple_iterator_next ?_ (F.args_tuple_iterator_next_1 _)))
 show wpAny _ _ (field (.ref it) 0 >>= _) _ _ s
 refine wpAny_bind (wpAny_field ho hd (x:=.ref t) rfl ?_)
 show wpAny _ _ (if (Value.ref t == Value.none)=true then _ else _) _ _ s
 rw[if_neg (show ¬((Value.ref t == Value.none)=true) from Bool.false_ne_true)]
 show wpAny _ _ (field (.ref it) 1 >>= _) _ _ s
 refine wpAny_bind (wpAny_field ho hd (x:=.int i 0) rfl ?_)
 show wpAny _ _ (seqItems? (.ref t) >>= _) _ _ s
 refine wpAny_bind (wpAny_seqItems hol hdl ?_)
 simp only[Int.toNat_natCast,hx]
 refine wpAny_bind (wpAny_rule (wpAny_bind (wpAny_setField ho hd (by simp) ?_)))
 show wpAny _ _ (newExc (.type "StopIteration") [] >>= _) _ _ _
 refine wpAny_bind ?_
 simp only[newExc,newTuple]
 refine wpAny_bind (wpAny_newObj_type ?_ (by size_fits))
 refine wpAny_bind (m:=firstArgMember _ _) (wpAny_of_eq (a:=Value.none) (by first|rfl|(simp only[firstArgMember];rfl)) ?_)
 refine wpAny_newObj_type ?_ (by size_fits)
 simp only[raiseNew]
 refine wpAny_bind (wpAny_handled ?_)
 first|rw[show A.in1.handled=none from hh] | rw[hh]
 refine wpAny_bind (wpAny_pure (wpAny_throw ?_))
 exact hE _ _ (((Heap.SameBut.update ..).extBut.push _).push _) ⟨_,Heap.get?_push_size _ rfl,rfl⟩
theorem nextOf_ascii_item {it:Addr}{x:Str}{t:Tok}{i c:Nat}{Q:Value→Shared→Prop}(hit:s.heap.IsStrIter it "str_ascii_iterator" x t i)(hx:x.cps[i]? = some c)
  (hQ:∀h',h'.IsStrIter it "str_ascii_iterator" x t (i+1)→Heap.SameBut it s.heap h'→Q (.str ⟨#[c]⟩ s.toks) {s with heap:=h',toks:=s.toks+1}) :
  wpAny (model prog w) A (Builtin.SmallTypes.nextOf (.ref it)) Q E s:=by
 obtain⟨o,ho,hc,hd⟩:=id hit
 unfold Builtin.SmallTypes.nextOf
 refine wpAny_bind (wpAny_callSpecial?_slot (name:=Str.ofString "__next__") hit.typeIs F.slot_str_ascii_iterator_next
  (wpAny_call_entry F.slot_str_ascii_iterator_next hit.typeIs F.entry_str_ascii_iterator_next ?_ (F.args_str_ascii_iterator_next_1 _)))
 show wpAny _ _ (field (.ref it) 0 >>= _) _ _ s
 refine wpAny_bind (wpAny_field ho hd (x:=.str x t) rfl ?_)
 show wpAny _ _ (field (.ref it) 1 >>= _) _ _ s
 refine wpAny_bind (wpAny_field ho hd (x:=.int i 0) rfl ?_)
 simp only[Int.toNat_natCast,hx]
 refine wpAny_bind (wpAny_setField ho hd (by simp) (wpAny_bind (wpAny_mkStr (wpAny_pure ⟨_,rfl,wpAny_pure (hQ _ ?_ (Heap.SameBut.update ..))⟩) (by show 1≤sizeLine;decide))))
 exact ⟨_,Heap.get?_update_self _ ho (Obj.isFreed_of_fields (Obj.data_mapFields hd _)),(Obj.cls_mapFields ..).trans hc,by
  rw[Obj.data_mapFields hd];simp[rawInt]⟩
theorem nextOf_ascii_end {it:Addr}{x:Str}{t:Tok}{i:Nat}{Q:Value→Shared→Prop}(hh:A.handled=none)
  (hit:s.heap.IsStrIter it "str_ascii_iterator" x t i) (hx:x.cps[i]? = none)
  (hE:∀h' e,Heap.ExtBut it s.heap h'→(∃o,h'.get? e=some o∧o.cls=.type "StopIteration")→E (.ref e) {s with heap:=h'}) :
  wpAny (model prog w) A (Builtin.SmallTypes.nextOf (.ref it)) Q E s:=by
 obtain⟨o,ho,hc,hd⟩:=id hit
 unfold Builtin.SmallTypes.nextOf
 refine wpAny_bind (wpAny_callSpecial?_slot (name:=Str.ofString "__next__") hit.typeIs F.slot_str_ascii_iterator_next
  (wpAny_call_entry F.slot_str_ascii_iterator_next hit.typeIs F.entry_str_ascii_iterator_next ?_ (F.args_str_ascii_iterator_next_1 _)))
 show wpAny _ _ (field (.ref it) 0 >>= _) _ _ s
 refine wpAny_bind (wpAny_field ho hd (x:=.str x t) rfl ?_)
 show wpAny _ _ (field (.ref it) 1 >>= _) _ _ s
 refine wpAny_bind (wpAny_field ho hd (x:=.int i 0) rfl ?_)
 simp only[Int.toNat_natCast,hx]
 refine wpAny_bind (wpAny_rule (wpAny_bind (wpAny_setField ho hd (by simp) (wpAny_bind (wpAny_letGo ?_)))))
 show wpAny _ _ (newExc (.type "StopIteration") [] >>= _) _ _ _
 refine wpAny_bind ?_
 simp only[newExc,newTuple]
 refine wpAny_bind (wpAny_newObj_type ?_ (by size_fits))
 refine wpAny_bind (m:=firstArgMember _ _) (wpAny_of_eq (a:=Value.none) (by first|rfl|(simp only[firstArgMember];rfl)) ?_)
 refine wpAny_newObj_type ?_ (by size_fits)
 simp only[raiseNew]
 refine wpAny_bind (wpAny_handled ?_)
 first|rw[show A.in1.handled=none from hh] | rw[hh]
 refine wpAny_bind (wpAny_pure (wpAny_throw ?_))
 exact hE _ _ (((Heap.SameBut.update ..).extBut.push _).push _) ⟨_,Heap.get?_push_size _ rfl,rfl⟩
end
abbrev IsZipF (h:Heap)(z TI TO:Addr)(f0 f1:Value):Prop :=
 h.get? z=some {cls:=.type "zip", dict:=none,data:=.fields #[f0,f1,.bool false,.ref TI,.ref TO],slots:=#[]}
structure Apart (z TI TO i1 i2:Addr):Prop where
 TIz:TI≠z
 TOz:TO≠z
 i1z:i1≠z
 i2z:i2≠z
 TITO:TI≠TO
 TIi1:TI≠i1
 TIi2:TI≠i2
 TOi1:TO≠i1
 TOi2:TO≠i2
 i12:i1≠i2
def Yields (prog:Program)(w:World)(A:Around)(it:Addr)(G:Heap→Prop)(P:Value→Prop)(S:Heap→Prop):Prop :=
 ∀ (s:Shared) (Q:Value→Shared→Prop) (E:Value→Shared→Prop),G s.heap→(∀x h' tk,P x→S h'→Heap.SameBut it s.heap h'→Q x {s with heap:=h',toks:=tk}) →
  wpAny (model prog w) A (Builtin.SmallTypes.nextOf (.ref it)) Q E s
def Ends (prog:Program)(w:World)(A:Around)(it:Addr)(G:Heap→Prop):Prop :=
 ∀ (s:Shared) (Q:Value→Shared→Prop) (E:Value→Shared→Prop),G s.heap→(∀h' e,Heap.ExtBut it s.heap h'→(∃o,h'.get? e=some o∧o.cls=.type "StopIteration")→E (.ref e) {s with heap:=h'}) →
  wpAny (model prog w) A (Builtin.SmallTypes.nextOf (.ref it)) Q E s
section
variable {prog:Program}{w:World}{A:Around}{E:Value→Shared→Prop}{s:Shared}
theorem next_item {z TI TO i1 i2:Addr}{a b f1:Value}{P1 P2:Value→Prop}{G1 G2 S1 S2:Heap→Prop}{Q:Value→Shared→Prop}(D:Apart z TI TO i1 i2)
  (hz:IsZipF s.heap z TI TO .none f1) (hTI:IsPair s.heap TI (.ref i1) (.ref i2)) (hTO:IsPair s.heap TO a b)
  (Y1:Yields prog w A i1 G1 P1 S1) (Y2:Yields prog w A i2 G2 P2 S2)
  (g1:∀h',(∀c o,c≠z→s.heap.get? c=some o→h'.get? c=some o)→G1 h') (g2:∀h',(∀c o,c≠z→c≠TO→c≠i1→s.heap.get? c=some o→h'.get? c=some o)→G2 h')
  (k1:∀h h',S1 h→(∀c o,c≠z→c≠TO→c≠i2→h.get? c=some o→h'.get? c=some o)→S1 h')
  (k2:∀h h',S2 h→(∀c o,c≠z→c≠TO→h.get? c=some o→h'.get? c=some o)→S2 h')
  (hQ:∀x y h' tk,P1 x→P2 y→IsZipF h' z TI TO (rawInt s.heap.objs.size) (.bool false)→IsPair h' TO x y→S1 h'→S2 h'→IsPair h' s.heap.objs.size x y→h'.objs.size=s.heap.objs.size+1 →
   (∀c o,c≠z→c≠TO→c≠i1→c≠i2→s.heap.get? c=some o→h'.get? c=some o)→Q (.ref s.heap.objs.size) {s with heap:=h',toks:=tk}) :
  wpAny (model prog w) A (Builtin.«zip.__next__» ⟨[.ref z],[]⟩) (fun fin s'=>∃v,fin=.done (.ret v)∧Q v s') E s:=by
 show wpAny _ _ (field (.ref z) 2 >>= _) _ _ _
 refine wpAny_bind (wpAny_field hz rfl (x:=.bool false) rfl ?_)
 show wpAny _ _ (field (.ref z) 3 >>= _) _ _ _
 refine wpAny_bind (wpAny_field hz rfl (x:=.ref TI) rfl ?_)
 refine wpAny_bind (wpAny_seqItems hTI rfl ?_)
 show wpAny _ _ (Builtin.SmallTypes.ownedTupleIsFree (.ref z) >>= _) _ _ _
 refine wpAny_bind ?_
 unfold Builtin.SmallTypes.ownedTupleIsFree
 refine wpAny_bind (wpAny_field hz rfl (x:=.none) rfl (wpAny_pure ?_))
 simp only[if_true]
 refine wpAny_bind (wpAny_rule ?_)
 refine wpAny_bind (wpAny_field hz rfl (x:=.ref TO) rfl ?_)
 refine wpAny_bind (wpAny_setField_rec hz (by simp) fun h₁ hz₁ hs₁=>?_)
 replace hz₁:IsZipF h₁ z TI TO .ellipsis f1:=hz₁
 refine wpAny_bind ?_
 simp only[List.zipIdx_cons,List.zipIdx_nil,List.forIn_cons,List.forIn_nil]
 refine wpAny_bind (wpAny_bind (wpAny_onRaise ?_))
 show wpAny _ _ (Builtin.SmallTypes.nextOf (.ref i1) >>= _) _ _ _
 refine wpAny_bind (Y1 _ _ _ (g1 _ fun c o hc e=>hs₁.extBut _ _ hc e) fun x h₂ tk₂ px st1 hs₂=>wpAny_pure ?_)
 have hTO₂:IsPair h₂ TO a b:=hs₂.extBut _ _ D.TOi1 (hs₁.extBut _ _ D.TOz hTO)
 refine wpAny_bind (wpAny_seqItems hTO₂ rfl ?_)
 refine wpAny_bind (wpAny_updateSeq_pair hTO₂ fun h₃ hTO₃ hs₃=>?_)
 replace hTO₃:IsPair h₃ TO x b:=hTO₃
 refine wpAny_bind (wpAny_letGo (wpAny_pure ?_))
 refine wpAny_bind (wpAny_bind (wpAny_onRaise ?_))
 show wpAny _ _ (Builtin.SmallTypes.nextOf (.ref i2) >>= _) _ _ _
 refine wpAny_bind (Y2 _ _ _ (g2 _ fun c o c1 c2 c3 e=>hs₃.extBut _ _ c2 (hs₂.extBut _ _ c3 (hs₁.extBut _ _ c1 e))) fun y h₄ tk₄ py st2 hs₄=>wpAny_pure ?_)
 have hTO₄:IsPair h₄ TO x b:=hs₄.extBut _ _ D.TOi2 hTO₃
 refine wpAny_bind (wpAny_seqItems hTO₄ rfl ?_)
 refine wpAny_bind (wpAny_updateSeq_pair hTO₄ fun h₅ hTO₅ hs₅=>?_)
 replace hTO₅:IsPair h₅ TO x y:=hTO₅
 refine wpAny_bind (wpAny_letGo (wpAny_pure (wpAny_pure ?_)))
 refine wpAny_bind (wpAny_seqItems hTO₅ rfl ?_)
 refine wpAny_bind (wpAny_newTuple ?_)
 have hsz:h₅.objs.size=s.heap.objs.size:=by rw[hs₅.1,hs₄.1,hs₃.1,hs₂.1,hs₁.1]
 have hz₅:IsZipF h₅ z TI TO .ellipsis f1:=hs₅.extBut _ _ D.TOz.symm (hs₄.extBut _ _ D.i2z.symm (hs₃.extBut _ _ D.TOz.symm (hs₂.extBut _ _ D.i1z.symm hz₁)))
 have hk₅:∀c o,c≠z→c≠TO→c≠i1→c≠i2→s.heap.get? c=some o→h₅.get? c=some o:=fun c o c1 c2 c3 c4 e =>
  hs₅.extBut _ _ c2 (hs₄.extBut _ _ c4 (hs₃.extBut _ _ c2 (hs₂.extBut _ _ c3 (hs₁.extBut _ _ c1 e))))
 have hzlt:z<h₅.objs.size:=Heap.lt_size hz₅
 show wpAny _ _ (Builtin.SmallTypes.ownedTupleHandOut (.ref z) (.ref h₅.objs.size) >>= _) _ _ _
 refine wpAny_bind ?_
 unfold Builtin.SmallTypes.ownedTupleHandOut
 have hz₆:IsZipF (h₅.push {cls:=.type "tuple", data:=.seq #[x,y]}) z TI TO .ellipsis f1:=Heap.get?_push_of_some _ hz₅
 refine wpAny_bind (wpAny_setField_rec hz₆ (by simp) fun h₇ hz₇ hs₇=>?_)
 replace hz₇:IsZipF h₇ z TI TO (rawInt h₅.objs.size) f1:=hz₇
 refine wpAny_setField_rec hz₇ (by simp) fun h₈ hz₈ hs₈=>?_
 replace hz₈:IsZipF h₈ z TI TO (rawInt h₅.objs.size) (.bool false):=hz₈
 have up:∀c o,c≠z→h₅.get? c=some o→h₈.get? c=some o:=fun c o c1 e=>hs₈.extBut _ _ c1 (hs₇.extBut _ _ c1 (Heap.get?_push_of_some _ e))
 have hT₈:IsPair h₈ h₅.objs.size x y:=hs₈.extBut _ _ (Nat.ne_of_gt hzlt) (hs₇.extBut _ _ (Nat.ne_of_gt hzlt) (Heap.get?_push_size _ rfl))
 have hz8:h₈.objs.size=h₅.objs.size+1:=by rw[hs₈.1,hs₇.1,Heap.size_push]
 have q1:S1 h₈:=k1 h₂ h₈ st1 fun c o c1 c2 c4 e=>up c o c1 (hs₅.extBut _ _ c2 (hs₄.extBut _ _ c4 (hs₃.extBut _ _ c2 e)))
 have q2:S2 h₈:=k2 h₄ h₈ st2 fun c o c1 c2 e=>up c o c1 (hs₅.extBut _ _ c2 e)
 rw[hsz] at hz₈ hT₈ hz8
 refine wpAny_pure ⟨_,rfl,?_⟩
 show Q (.ref h₅.objs.size) _
 rw[hsz]
 exact hQ x y h₈ _ px py hz₈ (up _ _ D.TOz hTO₅) q1 q2 hT₈ hz8 fun c o c1 c2 c3 c4 e=>up c o c1 (hk₅ c o c1 c2 c3 c4 e)
theorem next_end {z TI TO i1 i2:Addr}{a b f1:Value}{P1:Value→Prop}{G1 G2 S1:Heap→Prop}{Q:Fin→Shared→Prop}(D:Apart z TI TO i1 i2)
  (hz:IsZipF s.heap z TI TO .none f1) (hTI:IsPair s.heap TI (.ref i1) (.ref i2)) (hTO:IsPair s.heap TO a b)
  (hend:Ends prog w A i1 G1∨(Yields prog w A i1 G1 P1 S1∧Ends prog w A i2 G2))
  (g1:∀h',(∀c o,c≠z→s.heap.get? c=some o→h'.get? c=some o)→G1 h') (g2:∀h',(∀c o,c≠z→c≠TO→c≠i1→s.heap.get? c=some o→h'.get? c=some o)→G2 h')
  (hE:∀h' tk e,(∀c o,c≠z→c≠TO→c≠i1→c≠i2→s.heap.get? c=some o→h'.get? c=some o)→(∃o,h'.get? e=some o∧o.cls=.type "StopIteration")→E (.ref e) {s with heap:=h',toks:=tk}) :
  wpAny (model prog w) A (Builtin.«zip.__next__» ⟨[.ref z],[]⟩) Q E s:=by
 show wpAny _ _ (field (.ref z) 2 >>= _) _ _ _
 refine wpAny_bind (wpAny_field hz rfl (x:=.bool false) rfl ?_)
 show wpAny _ _ (field (.ref z) 3 >>= _) _ _ _
 refine wpAny_bind (wpAny_field hz rfl (x:=.ref TI) rfl ?_)
 refine wpAny_bind (wpAny_seqItems hTI rfl ?_)
 show wpAny _ _ (Builtin.SmallTypes.ownedTupleIsFree (.ref z) >>= _) _ _ _
 refine wpAny_bind ?_
 unfold Builtin.SmallTypes.ownedTupleIsFree
 refine wpAny_bind (wpAny_field hz rfl (x:=.none) rfl (wpAny_pure ?_))
 simp only[if_true]
 refine wpAny_bind (wpAny_rule ?_)
 refine wpAny_bind (wpAny_field hz rfl (x:=.ref TO) rfl ?_)
 refine wpAny_bind (wpAny_setField_rec hz (by simp) fun h₁ hz₁ hs₁=>?_)
 replace hz₁:IsZipF h₁ z TI TO .ellipsis f1:=hz₁
 refine wpAny_bind ?_
 simp only[List.zipIdx_cons,List.zipIdx_nil,List.forIn_cons,List.forIn_nil]
 refine wpAny_bind (wpAny_bind (wpAny_onRaise ?_))
 show wpAny _ _ (Builtin.SmallTypes.nextOf (.ref i1) >>= _) _ _ _
 rcases hend with E1|⟨Y1,E2⟩
 ·refine wpAny_bind (E1 _ _ _ (g1 _ fun c o hc e=>hs₁.extBut _ _ hc e) fun h₂ e hs₂ he=>?_)
  obtain⟨oe,hoe,hce⟩:=he
  have hz₂:IsZipF h₂ z TI TO .ellipsis f1:=hs₂ _ _ D.i1z.symm hz₁
  have hez:e≠z:=fun x=>by subst x;rw[hz₂] at hoe;cases hoe;simp at hce
  refine wpAny_setField_rec hz₂ (by simp) fun h₃ _ hs₃=>hE h₃ _ e (fun c o c1 _ c3 _ x=>hs₃.extBut _ _ c1 (hs₂ _ _ c3 (hs₁.extBut _ _ c1 x))) ⟨oe,hs₃.extBut _ _ hez hoe,hce⟩
 ·refine wpAny_bind (Y1 _ _ _ (g1 _ fun c o hc e=>hs₁.extBut _ _ hc e) fun x h₂ tk₂ px st1 hs₂=>wpAny_pure ?_)
  have hTO₂:IsPair h₂ TO a b:=hs₂.extBut _ _ D.TOi1 (hs₁.extBut _ _ D.TOz hTO)
  refine wpAny_bind (wpAny_seqItems hTO₂ rfl ?_)
  refine wpAny_bind (wpAny_updateSeq_pair hTO₂ fun h₃ hTO₃ hs₃=>?_)
  refine wpAny_bind (wpAny_letGo (wpAny_pure ?_))
  refine wpAny_bind (wpAny_bind (wpAny_onRaise ?_))
  show wpAny _ _ (Builtin.SmallTypes.nextOf (.ref i2) >>= _) _ _ _
  refine wpAny_bind (E2 _ _ _ (g2 _ fun c o c1 c2 c3 e=>hs₃.extBut _ _ c2 (hs₂.extBut _ _ c3 (hs₁.extBut _ _ c1 e))) fun h₄ e hs₄ he=>?_)
  obtain⟨oe,hoe,hce⟩:=he
  have hz₄:IsZipF h₄ z TI TO .ellipsis f1:=hs₄ _ _ D.i2z.symm (hs₃.extBut _ _ D.TOz.symm (hs₂.extBut _ _ D.i1z.symm hz₁))
  have hez:e≠z:=fun x=>by subst x;rw[hz₄] at hoe;cases hoe;simp at hce
  refine wpAny_setField_rec hz₄ (by simp) fun h₅ _ hs₅=>hE h₅ _ e (fun c o c1 c2 c3 c4 x=>hs₅.extBut _ _ c1 (hs₄ _ _ c4 (hs₃.extBut _ _ c2 (hs₂.extBut _ _ c3 (hs₁.extBut _ _ c1 x))))) ⟨oe,hs₅.extBut _ _ hez hoe,hce⟩
end
end Zp
namespace Zp
open PySem
section
variable {prog:Program}{w:World}{A:Around}{E:Value→Shared→Prop}{s:Shared}
theorem alive {a:Addr}{o:Obj}{Q:Option Obj→Shared→Prop}(ho:s.heap.get? a=some o)(h:Q (some o) s):wpAny (model prog w) A (loadIfAlive a) Q E s:=by
 have h':Q (s.heap.get? a) s:=by rw[ho];exact h
 exact fun _ _ _=>h'
theorem next_busy {z TI TO i1 i2 T:Addr}{oT:Obj}{P1 P2:Value→Prop}{fb:Bool}{G1 G2 S1 S2:Heap→Prop}{Q:Value→Shared→Prop}(D:Apart z TI TO i1 i2)
  (hz:IsZipF s.heap z TI TO (rawInt T) (.bool fb)) (hTI:IsPair s.heap TI (.ref i1) (.ref i2)) (hT:s.heap.get? T=some oT)
  (Y1:Yields prog w A i1 G1 P1 S1) (Y2:Yields prog w A i2 G2 P2 S2)
  (g1:∀h',(∀c o,c≠z→s.heap.get? c=some o→h'.get? c=some o)→G1 h') (g2:∀h',(∀c o,c≠z→c≠i1→s.heap.get? c=some o→h'.get? c=some o)→G2 h')
  (k1:∀h h',S1 h→(∀c o,c≠i2→h.get? c=some o→h'.get? c=some o)→S1 h')
  (k2:∀h h',S2 h→(∀c o,h.get? c=some o→h'.get? c=some o)→S2 h')
  (hQ:∀x y h' tk,P1 x→P2 y→IsZipF h' z TI TO (rawInt T) (.bool true)→S1 h'→S2 h'→IsPair h' s.heap.objs.size x y→h'.objs.size=s.heap.objs.size+1 →
   (∀c o,c≠z→c≠i1→c≠i2→s.heap.get? c=some o→h'.get? c=some o)→Q (.ref s.heap.objs.size) {s with heap:=h',toks:=tk}) :
  wpAny (model prog w) A (Builtin.«zip.__next__» ⟨[.ref z],[]⟩) (fun fin s'=>∃v,fin=.done (.ret v)∧Q v s') E s:=by
 show wpAny _ _ (field (.ref z) 2 >>= _) _ _ _
 refine wpAny_bind (wpAny_field hz rfl (x:=.bool false) rfl ?_)
 show wpAny _ _ (field (.ref z) 3 >>= _) _ _ _
 refine wpAny_bind (wpAny_field hz rfl (x:=.ref TI) rfl ?_)
 refine wpAny_bind (wpAny_seqItems hTI rfl ?_)
 show wpAny _ _ (Builtin.SmallTypes.ownedTupleIsFree (.ref z) >>= _) _ _ _
 refine wpAny_bind ?_
 unfold Builtin.SmallTypes.ownedTupleIsFree
 refine wpAny_bind (wpAny_field hz rfl (x:=rawInt T) rfl ?_)
 show wpAny _ _ (loadIfAlive ((T:Int).toNat) >>= _) _ _ _
 rw[Int.toNat_natCast]
 refine wpAny_bind (alive hT ?_)
 simp only[Option.isNone_some,Bool.false_eq_true,if_false]
 refine wpAny_bind (wpAny_field hz rfl (x:=.bool fb) rfl ?_)
 cases fb with
 | true =>
  rw[if_neg (show ¬((Value.bool true != Value.bool true)=true) from Bool.false_ne_true)]
  refine wpAny_pure ?_
  simp only[Bool.false_eq_true,if_false]
  have HZ:=hz
  have HS:Heap.SameBut z s.heap s.heap:=Heap.SameBut.refl _ _
  rw[← Array.forIn_toList]
  simp only[List.forIn_cons,List.forIn_nil]
  refine wpAny_bind (wpAny_bind (wpAny_bind (wpAny_holding ?_)))
  show wpAny _ _ (Builtin.SmallTypes.nextOf (.ref i1) >>= _) _ _ _
  refine wpAny_bind (Y1 _ _ _ (g1 _ fun c o hc e=>HS.extBut _ _ hc e) fun x h₂ tk₂ px st1 hs₂=>wpAny_pure (wpAny_pure ?_))
  refine wpAny_bind (wpAny_bind (wpAny_holding ?_))
  show wpAny _ _ (Builtin.SmallTypes.nextOf (.ref i2) >>= _) _ _ _
  refine wpAny_bind (Y2 _ _ _ (g2 _ fun c o c1 c3 e=>hs₂.extBut _ _ c3 (HS.extBut _ _ c1 e)) fun y h₄ tk₄ py st2 hs₄=>wpAny_pure (wpAny_pure (wpAny_pure ?_)))
  refine wpAny_bind (wpAny_newTuple ?_ (by show 2≤sizeLine;decide))
  have hsz:h₄.objs.size=s.heap.objs.size:=by rw[hs₄.1,hs₂.1,HS.1]
  have hz₄:IsZipF h₄ z TI TO (rawInt T) (.bool true):=hs₄.extBut _ _ D.i2z.symm (hs₂.extBut _ _ D.i1z.symm HZ)
  refine wpAny_pure ⟨_,rfl,?_⟩
  show Q (.ref h₄.objs.size) _
  rw[hsz]
  have hp:IsPair (h₄.push {cls:=.type "tuple", data:=.seq #[x,y]}) s.heap.objs.size x y:=by rw[← hsz];exact Heap.get?_push_size _ rfl
  exact hQ x y _ _ px py (Heap.get?_push_of_some _ hz₄) (k1 h₂ _ st1 fun c o hc e=>Heap.get?_push_of_some _ (hs₄.extBut _ _ hc e)) (k2 h₄ _ st2 fun c o e=>Heap.get?_push_of_some _ e) hp (by rw[Heap.size_push,hsz])
   fun c o c1 c3 c4 e=>Heap.get?_push_of_some _ (hs₄.extBut _ _ c4 (hs₂.extBut _ _ c3 (HS.extBut _ _ c1 e)))
 | false =>
  rw[if_pos (show(Value.bool false != Value.bool true)=true from rfl)]
  refine wpAny_bind (wpAny_setField_rec hz (by simp) fun h₁ hz₁ HS=>?_)
  replace HS:Heap.SameBut z s.heap h₁:=HS
  have HZ:IsZipF h₁ z TI TO (rawInt T) (.bool true):=hz₁
  refine wpAny_pure ?_
  simp only[Bool.false_eq_true,if_false]
  rw[← Array.forIn_toList]
  simp only[List.forIn_cons,List.forIn_nil]
  refine wpAny_bind (wpAny_bind (wpAny_bind (wpAny_holding ?_)))
  show wpAny _ _ (Builtin.SmallTypes.nextOf (.ref i1) >>= _) _ _ _
  refine wpAny_bind (Y1 _ _ _ (g1 _ fun c o hc e=>HS.extBut _ _ hc e) fun x h₂ tk₂ px st1 hs₂=>wpAny_pure (wpAny_pure ?_))
  refine wpAny_bind (wpAny_bind (wpAny_holding ?_))
  show wpAny _ _ (Builtin.SmallTypes.nextOf (.ref i2) >>= _) _ _ _
  refine wpAny_bind (Y2 _ _ _ (g2 _ fun c o c1 c3 e=>hs₂.extBut _ _ c3 (HS.extBut _ _ c1 e)) fun y h₄ tk₄ py st2 hs₄=>wpAny_pure (wpAny_pure (wpAny_pure ?_)))
  refine wpAny_bind (wpAny_newTuple ?_ (by show 2≤sizeLine;decide))
  have hsz:h₄.objs.size=s.heap.objs.size:=by rw[hs₄.1,hs₂.1,HS.1]
  have hz₄:IsZipF h₄ z TI TO (rawInt T) (.bool true):=hs₄.extBut _ _ D.i2z.symm (hs₂.extBut _ _ D.i1z.symm HZ)
  refine wpAny_pure ⟨_,rfl,?_⟩
  show Q (.ref h₄.objs.size) _
  rw[hsz]
  have hp:IsPair (h₄.push {cls:=.type "tuple", data:=.seq #[x,y]}) s.heap.objs.size x y:=by rw[← hsz];exact Heap.get?_push_size _ rfl
  exact hQ x y _ _ px py (Heap.get?_push_of_some _ hz₄) (k1 h₂ _ st1 fun c o hc e=>Heap.get?_push_of_some _ (hs₄.extBut _ _ hc e)) (k2 h₄ _ st2 fun c o e=>Heap.get?_push_of_some _ e) hp (by rw[Heap.size_push,hsz])
   fun c o c1 c3 c4 e=>Heap.get?_push_of_some _ (hs₄.extBut _ _ c4 (hs₂.extBut _ _ c3 (HS.extBut _ _ c1 e)))
theorem end_busy {z TI TO i1 i2 T:Addr}{oT:Obj}{P1:Value→Prop}{fb:Bool}{G1 G2 S1:Heap→Prop}{Q:Fin→Shared→Prop}(D:Apart z TI TO i1 i2)
  (hz:IsZipF s.heap z TI TO (rawInt T) (.bool fb)) (hTI:IsPair s.heap TI (.ref i1) (.ref i2)) (hT:s.heap.get? T=some oT)
  (hend:Ends prog w A i1 G1∨(Yields prog w A i1 G1 P1 S1∧Ends prog w A i2 G2))
  (g1:∀h',(∀c o,c≠z→s.heap.get? c=some o→h'.get? c=some o)→G1 h') (g2:∀h',(∀c o,c≠z→c≠i1→s.heap.get? c=some o→h'.get? c=some o)→G2 h')
  (hE:∀h' tk e,(∀c o,c≠z→c≠i1→c≠i2→s.heap.get? c=some o→h'.get? c=some o)→(∃o,h'.get? e=some o∧o.cls=.type "StopIteration")→E (.ref e) {s with heap:=h',toks:=tk}) :
  wpAny (model prog w) A (Builtin.«zip.__next__» ⟨[.ref z],[]⟩) Q E s:=by
 show wpAny _ _ (field (.ref z) 2 >>= _) _ _ _
 refine wpAny_bind (wpAny_field hz rfl (x:=.bool false) rfl ?_)
 show wpAny _ _ (field (.ref z) 3 >>= _) _ _ _
 refine wpAny_bind (wpAny_field hz rfl (x:=.ref TI) rfl ?_)
 refine wpAny_bind (wpAny_seqItems hTI rfl ?_)
 show wpAny _ _ (Builtin.SmallTypes.ownedTupleIsFree (.ref z) >>= _) _ _ _
 refine wpAny_bind ?_
 unfold Builtin.SmallTypes.ownedTupleIsFree
 refine wpAny_bind (wpAny_field hz rfl (x:=rawInt T) rfl ?_)
 show wpAny _ _ (loadIfAlive ((T:Int).toNat) >>= _) _ _ _
 rw[Int.toNat_natCast]
 refine wpAny_bind (alive hT ?_)
 simp only[Option.isNone_some,Bool.false_eq_true,if_false]
 refine wpAny_bind (wpAny_field hz rfl (x:=.bool fb) rfl ?_)
 cases fb with
 | true =>
  rw[if_neg (show ¬((Value.bool true != Value.bool true)=true) from Bool.false_ne_true)]
  refine wpAny_pure ?_
  simp only[Bool.false_eq_true,if_false]
  have HS:Heap.SameBut z s.heap s.heap:=Heap.SameBut.refl _ _
  rw[← Array.forIn_toList]
  simp only[List.forIn_cons,List.forIn_nil]
  refine wpAny_bind (wpAny_bind (wpAny_bind (wpAny_holding ?_)))
  show wpAny _ _ (Builtin.SmallTypes.nextOf (.ref i1) >>= _) _ _ _
  rcases hend with E1|⟨Y1,E2⟩
  ·refine wpAny_bind (E1 _ _ _ (g1 _ fun c o hc e=>HS.extBut _ _ hc e) fun h₂ e hs₂ he=>?_)
   exact hE h₂ _ e (fun c o c1 c3 _ x=>hs₂ _ _ c3 (HS.extBut _ _ c1 x)) he
  ·refine wpAny_bind (Y1 _ _ _ (g1 _ fun c o hc e=>HS.extBut _ _ hc e) fun x h₂ tk₂ px st1 hs₂=>wpAny_pure (wpAny_pure ?_))
   refine wpAny_bind (wpAny_bind (wpAny_holding ?_))
   show wpAny _ _ (Builtin.SmallTypes.nextOf (.ref i2) >>= _) _ _ _
   refine wpAny_bind (E2 _ _ _ (g2 _ fun c o c1 c3 e=>hs₂.extBut _ _ c3 (HS.extBut _ _ c1 e)) fun h₄ e hs₄ he=>?_)
   exact hE h₄ _ e (fun c o c1 c3 c4 x=>hs₄ _ _ c4 (hs₂.extBut _ _ c3 (HS.extBut _ _ c1 x))) he
 | false =>
  rw[if_pos (show(Value.bool false != Value.bool true)=true from rfl)]
  refine wpAny_bind (wpAny_setField_rec hz (by simp) fun h₁ hz₁ HS=>?_)
  replace HS:Heap.SameBut z s.heap h₁:=HS
  refine wpAny_pure ?_
  simp only[Bool.false_eq_true,if_false]
  rw[← Array.forIn_toList]
  simp only[List.forIn_cons,List.forIn_nil]
  refine wpAny_bind (wpAny_bind (wpAny_bind (wpAny_holding ?_)))
  show wpAny _ _ (Builtin.SmallTypes.nextOf (.ref i1) >>= _) _ _ _
  rcases hend with E1|⟨Y1,E2⟩
  ·refine wpAny_bind (E1 _ _ _ (g1 _ fun c o hc e=>HS.extBut _ _ hc e) fun h₂ e hs₂ he=>?_)
   exact hE h₂ _ e (fun c o c1 c3 _ x=>hs₂ _ _ c3 (HS.extBut _ _ c1 x)) he
  ·refine wpAny_bind (Y1 _ _ _ (g1 _ fun c o hc e=>HS.extBut _ _ hc e) fun x h₂ tk₂ px st1 hs₂=>wpAny_pure (wpAny_pure ?_))
   refine wpAny_bind (wpAny_bind (wpAny_holding ?_))
   show wpAny _ _ (Builtin.SmallTypes.nextOf (.ref i2) >>= _) _ _ _
   refine wpAny_bind (E2 _ _ _ (g2 _ fun c o c1 c3 e=>hs₂.extBut _ _ c3 (HS.extBut _ _ c1 e)) fun h₄ e hs₄ he=>?_)
   exact hE h₄ _ e (fun c o c1 c3 c4 x=>hs₄ _ _ c4 (hs₂.extBut _ _ c3 (HS.extBut _ _ c1 x))) he
end
end Zp
set_option maxHeartbeats 2000000
namespace Zp
open PySem
section
variable {prog:Program}{w:World}{A:Around}
theorem yields_tuple {it t:Addr}{i:Nat}{items:Array Value}{x:Value}(hne:t≠it)(hx:items[i]? = some x) :
  Yields prog w A it (fun h=>h.IsTupleIter it t i∧h.IsTuple t items) (fun v=>v=x) (fun h=>h.IsTupleIter it t (i+1)∧h.IsTuple t items) :=
 fun s Q E g hQ=>nextOf_tuple_item g.1 g.2 hx fun h' st sb=>hQ _ h' s.toks rfl ⟨st,g.2.extBut sb.extBut hne⟩ sb
theorem ends_tuple {it t:Addr}{i:Nat}{items:Array Value}(hh:A.handled=none)(hx:items[i]? = none) :
  Ends prog w A it (fun h=>h.IsTupleIter it t i∧h.IsTuple t items) :=
 fun s Q E g hE=>nextOf_tuple_end hh g.1 g.2 hx hE
theorem yields_ascii {it:Addr}{x:Str}{t:Tok}{i c:Nat}(hx:x.cps[i]? = some c) :
  Yields prog w A it (fun h=>h.IsStrIter it "str_ascii_iterator" x t i) (fun v=>∃u,v=.str ⟨#[c]⟩ u) (fun h=>h.IsStrIter it "str_ascii_iterator" x t (i+1)) :=
 fun s Q E g hQ=>nextOf_ascii_item g hx fun h' st sb=>hQ _ h' _ ⟨_,rfl⟩ st sb
theorem ends_ascii {it:Addr}{x:Str}{t:Tok}{i:Nat}(hh:A.handled=none)(hx:x.cps[i]? = none) :
  Ends prog w A it (fun h=>h.IsStrIter it "str_ascii_iterator" x t i) :=
 fun s Q E g hE=>nextOf_ascii_end hh g hx hE
end
section
variable {prog:Program}{w:World}{A:Around}{E:Value→Shared→Prop}{s:Shared}
abbrev zH2 (h:Heap)(o1 o2:Obj):Heap:=(h.push o1).push o2
abbrev zH3 (h:Heap)(o1 o2:Obj):Heap:=(zH2 h o1 o2).push {cls:=.type "tuple", data:=.seq #[.ref h.objs.size,.ref (h.push o1).objs.size]}
abbrev zH4 (h:Heap)(o1 o2:Obj):Heap:=(zH3 h o1 o2).push {cls:=.type "tuple", data:=.seq #[.none,.none]}
abbrev zH5 (h:Heap)(o1 o2:Obj):Heap:=(zH4 h o1 o2).push {cls:=.type "zip", data:=.fields #[.none,.bool false,.bool false,.ref (zH2 h o1 o2).objs.size,.ref (zH3 h o1 o2).objs.size]}
abbrev tIter (t:Addr):Obj:={cls:=.type "tuple_iterator", data:=.fields #[.ref t,.int 0 0]}
abbrev sIter (x:Str)(t:Tok):Obj:={cls:=.type "str_ascii_iterator", data:=.fields #[.str x t,.int 0 0]}
theorem meets_st_aux {prog:Program}{w:World}{A:Around}{a b:Value}{s:Shared}{h1 h2:Heap}{i1 i2:Addr}{E:Value→Shared→Prop}{Q:Fin→Shared→Prop}
  (p1:∀(Q:Value→Shared→Prop) (E:Value→Shared→Prop),Q (.ref i1) {s with heap:=h1}→wpAny (model prog w) A (pyIter a) Q E s)
  (p2:∀(Q:Value→Shared→Prop) (E:Value→Shared→Prop),Q (.ref i2) {s with heap:=h2}→wpAny (model prog w) A (pyIter b) Q E {s with heap:=h1})
  (hQ:Q (.done (.ret (.ref (h2.objs.size+2)))) {s with heap:=((h2.push {cls:=.type "tuple", data:=.seq #[.ref i1,.ref i2]}).push {cls:=.type "tuple", data:=.seq #[.none,.none]}).push {cls:=.type "zip", data:=.fields #[.none,.bool false,.bool false,.ref h2.objs.size,.ref (h2.objs.size+1)]} }) :
  wpAny (model prog w) A (Builtin.«zip.__new__» ⟨[.type "zip", a,b],[]⟩) Q E s:=by
 obtain⟨hp,g,d,tk,os⟩:=s
 have hsub:=sub_zip
 have z1:(h2.push {cls:=.type "tuple", data:=.seq #[.ref i1,.ref i2]}).objs.size=h2.objs.size+1:=Heap.size_push ..
 have z2:((h2.push {cls:=.type "tuple", data:=.seq #[.ref i1,.ref i2]}).push {cls:=.type "tuple", data:=.seq #[.none,.none]}).objs.size=h2.objs.size+2:=by rw[Heap.size_push,z1]
 rw[← z2,← z1] at hQ
 wp_walk using p1 _ _,p2 _ _
 exact hQ
def Made5 (h h':Heap)(o1 o2:Obj):Prop :=
 IsZipF h' (h.objs.size+4) (h.objs.size+2) (h.objs.size+3) .none (.bool false)∧IsPair h' (h.objs.size+2) (.ref h.objs.size) (.ref (h.objs.size+1)) ∧
  IsPair h' (h.objs.size+3) .none .none∧h'.get? h.objs.size=some o1∧h'.get? (h.objs.size+1)=some o2∧h'.objs.size=h.objs.size+5∧∀c o,h.get? c=some o→h'.get? c=some o
theorem made5 (h:Heap)(o1 o2:Obj)(f1:o1.isFreed=false)(f2:o2.isFreed=false):Made5 h (zH5 h o1 o2) o1 o2∧(zH4 h o1 o2).objs.size=h.objs.size+4:=by
 have z1:(h.push o1).objs.size=h.objs.size+1:=Heap.size_push ..
 have z2:(zH2 h o1 o2).objs.size=h.objs.size+2:=by rw[Heap.size_push,z1]
 have z3:(zH3 h o1 o2).objs.size=h.objs.size+3:=by rw[Heap.size_push,z2]
 have z4:(zH4 h o1 o2).objs.size=h.objs.size+4:=by rw[Heap.size_push,z3]
 have z5:(zH5 h o1 o2).objs.size=h.objs.size+5:=by rw[Heap.size_push,z4]
 have g5:(zH5 h o1 o2).get? (zH4 h o1 o2).objs.size=some _:=Heap.get?_push_size _ rfl
 have g4:(zH5 h o1 o2).get? (zH3 h o1 o2).objs.size=some _:=Heap.get?_push_of_some _ (Heap.get?_push_size _ rfl)
 have g3:(zH5 h o1 o2).get? (zH2 h o1 o2).objs.size=some _:=Heap.get?_push_of_some _ (Heap.get?_push_of_some _ (Heap.get?_push_size _ rfl))
 have g2:(zH5 h o1 o2).get? (h.push o1).objs.size=some o2:=Heap.get?_push_of_some _ (Heap.get?_push_of_some _ (Heap.get?_push_of_some _ (Heap.get?_push_size _ f2)))
 have g1:(zH5 h o1 o2).get? h.objs.size=some o1:=Heap.get?_push_of_some _ (Heap.get?_push_of_some _ (Heap.get?_push_of_some _ (Heap.get?_push_of_some _ (Heap.get?_push_size _ f1))))
 rw[z2,z3,z4] at g5
 rw[z1,z2] at g3
 rw[z3] at g4
 rw[z1] at g2
 exact⟨⟨g5,g3,g4,g1,g2,z5,fun c o x=>Heap.get?_push_of_some _ (Heap.get?_push_of_some _ (Heap.get?_push_of_some _ (Heap.get?_push_of_some _ (Heap.get?_push_of_some _ x))))⟩,z4⟩
end
end Zp
namespace Zp
open PySem
theorem zip_getattr_none:typeLookup (.type "zip") "__getattr__" = pure none:=by rw[typeLookup_type,builtinLookup_eq_fast];kernel_rfl
theorem zip_keys_none:typeLookup (.type "zip") "keys" = pure none:=by rw[typeLookup_type,builtinLookup_eq_fast];kernel_rfl
theorem entry_zip_getattribute:entryFor table "zip.__getattribute__" = some Builtin.«object.__getattribute__» :=
 entryFor_alias (id' := "object.__getattribute__") (by kernel_rfl) (by decide +kernel) (by decide +kernel) (by kernel_rfl)
theorem meets_miss (a:Addr)(vs:Array Value)(name:Str)(u:Tok)(hmiss:typeLookup (.type "zip") name=pure none)(hname:(["__module__", "__name__", "__qualname__", "__doc__", "__annotations__"]:List Str).contains name=false)(hsz:name.length+100≤sizeLine:=by size_fits) :
  Meets (Builtin.«object.__getattribute__» ⟨[.ref a,.str name u],[]⟩) (fun A R s=>s.heap.get? a=some {cls:=.type "zip", dict:=none,data:=.fields vs,slots:=#[]}∧raisesAttr (.ref a) name A R s) :=
 Meets.of_wp fun prog w A R s hs=>by
  obtain⟨hp,g,d,tk,os⟩:=s
  obtain⟨hx,hs⟩:=hs
  have hT:(⟨hp,g,d,tk,os⟩:Shared).TypeIs (.ref a) "zip" := ⟨_,hx,rfl⟩
  unfold Builtin.«object.__getattribute__»
  repeat (any_goals (first|assumption|wp_step))
  simp only[hname,Bool.false_eq_true,if_false]
  repeat (any_goals (first|assumption|wp_step))
  exact wpAny_raiseAttrError hs.1 hs.2 (attrMsg_fits (by decide +kernel) hsz)
theorem no_keys {prog:Program}{w:World}{A:Around}{E:Value→Shared→Prop}{s:Shared}{a:Addr}{vs:Array Value}{Q:Option Value→Shared→Prop}
  (hx:s.heap.get? a=some {cls:=.type "zip", dict:=none,data:=.fields vs,slots:=#[]}) (hA:A.handled=none)
  (h:∀h' tk,(∀b o,s.heap.get? b=some o→h'.get? b=some o)→Q none {s with heap:=h',toks:=tk}) :
  wpAny (model prog w) A (getAttr? (.ref a) "keys") Q E s:=by
 obtain⟨hp,g,d,tk,os⟩:=s
 have hT:∀tk',(⟨hp,g,d,tk',os⟩:Shared).TypeIs (.ref a) "zip" := fun _=>⟨_,hx,rfl⟩
 have f1:=sub_AttributeError
 have f3:=F.slot_zip_getattribute.lookup
 have f4:=F.slot_zip_getattribute.bind (.ref a)
 have f5:=zip_getattr_none
 unfold getAttr? getAttrBy? getAttrBy
 repeat (any_goals (first|assumption|exact hT _|((with_reducible show wpAny _ _ (call (Value.builtin "zip.__getattribute__") _ _) _ _ _);refine call_meets F.slot_zip_getattribute (hT _) entry_zip_getattribute (F.args_zip_getattribute_2 _ _) (meets_miss a vs "keys" _ zip_keys_none (by decide +kernel) (by decide +kernel)) ⟨hx,hA,fun h' tk' e hx'=>?_⟩)|wp_step))
 obtain⟨t',u',he⟩:=hx'.there
 show wpAny _ _ (getattributeRaised _ _ _ _ _ _ _) _ _ _
 unfold getattributeRaised hookBehind onTheHeap hookOrError attributeErrorLeaves
 repeat (any_goals (first|assumption|wp_step))
 exact h _ _ hx'.keeps
structure ZSt (h:Heap)(z TI TO i1 i2 tp d:Addr)(x:Str)(t:Tok)(ys:Array Value)(i:Nat):Prop where
 zip:(∃f1,IsZipF h z TI TO .none (.bool f1))∨∃(T:Addr) (oT:Obj) (fb:Bool),IsZipF h z TI TO (rawInt T) (.bool fb)∧h.get? T=some oT∧T≠z∧T≠TO∧T≠i1∧T≠i2∧T≠d
 ti:IsPair h TI (.ref i1) (.ref i2)
 to:∃a b,IsPair h TO a b
 s1:h.IsStrIter i1 "str_ascii_iterator" x t i
 s2:h.IsTupleIter i2 tp i∧h.IsTuple tp ys
structure ZAp (z TI TO i1 i2 tp d:Addr):Prop where
 D:Apart z TI TO i1 i2
 tz:tp≠z
 tO:tp≠TO
 t1:tp≠i1
 t2:tp≠i2
 dz:d≠z
 dI:d≠TI
 dO:d≠TO
 d1:d≠i1
 d2:d≠i2
 dt:d≠tp
theorem ZSt.dict {h h':Heap}{z TI TO i1 i2 tp d:Addr}{x:Str}{t:Tok}{ys:Array Value}{i:Nat}(Z:ZSt h z TI TO i1 i2 tp d x t ys i)(Y:ZAp z TI TO i1 i2 tp d)
  (k:∀c o,c≠d→h.get? c=some o→h'.get? c=some o):ZSt h' z TI TO i1 i2 tp d x t ys i:=by
 obtain⟨zp,ti,⟨a,b,to⟩,⟨o1,e1,r1⟩,⟨o2,e2,r2⟩,o3,e3,r3⟩:=Z
 refine⟨?_,k _ _ (Ne.symm Y.dI) ti,⟨a,b,k _ _ (Ne.symm Y.dO) to⟩,⟨o1,k _ _ (Ne.symm Y.d1) e1,r1⟩,⟨o2,k _ _ (Ne.symm Y.d2) e2,r2⟩,o3,k _ _ (Ne.symm Y.dt) e3,r3⟩
 rcases zp with⟨f1,hz⟩|⟨T,oT,fb,hz,hT,n1,n2,n3,n4,n5⟩
 ·exact .inl ⟨f1,k _ _ (Ne.symm Y.dz) hz⟩
 ·exact .inr ⟨T,oT,fb,k _ _ (Ne.symm Y.dz) hz,k _ _ n5 hT,n1,n2,n3,n4,n5⟩
section
variable {prog:Program}{w:World}{A:Around}{E:Value→Shared→Prop}{s:Shared}
theorem ZSt.next {z TI TO i1 i2 tp d:Addr}{x:Str}{t:Tok}{ys:Array Value}{i c:Nat}{y:Value}{Q:Option Value→Shared→Prop}(Z:ZSt s.heap z TI TO i1 i2 tp d x t ys i)(Y:ZAp z TI TO i1 i2 tp d)
  (hd:d<s.heap.objs.size) (hc:x.cps[i]? = some c) (hy:ys[i]? = some y)
  (hQ:∀(T:Addr) u h' tk,ZSt h' z TI TO i1 i2 tp d x t ys (i+1)→IsPair h' T (.str ⟨#[c]⟩ u) y→(∀c o,c≠z→c≠TO→c≠i1→c≠i2→s.heap.get? c=some o→h'.get? c=some o)→h'.objs.size=s.heap.objs.size+1→Q (some (.ref T)) {s with heap:=h',toks:=tk}) :
  wpAny (model prog w) A (pyNext (.ref z)) Q E s:=by
 obtain⟨zp,ti,⟨a,b,to⟩,s1,s2⟩:=Z
 have D:=Y.D
 obtain⟨o1,e1,r1⟩:=id s1
 obtain⟨⟨o2,e2,r2⟩,o3,e3,r3⟩:=id s2
 have lt:∀{c:Addr}{o:Obj},s.heap.get? c=some o→s.heap.objs.size≠c:=fun e=>Nat.ne_of_gt (Heap.lt_size e)
 have Y1:=yields_ascii (prog:=prog) (w:=w) (A:=A.in1) (it:=i1) (t:=t) hc
 have Y2:=yields_tuple (prog:=prog) (w:=w) (A:=A.in1) Y.t2 hy
 rcases zp with⟨f1,hz⟩|⟨T,oT,fb,hz,hT,n1,n2,n3,n4,n5⟩
 ·have hTy:s.TypeIs (.ref z) "zip" := ⟨_,hz,rfl⟩
  unfold pyNext
  refine wpAny_bind (wpAny_attempt (wpAny_callSpecial?_slot (name:=Str.ofString "__next__") hTy F.slot_zip_next
   (wpAny_call_entry F.slot_zip_next hTy F.entry_zip_next (next_item D hz ti to Y1 Y2 ?_ ?_ ?_ ?_ ?_) (F.args_zip_next_1 _))))
  ·exact fun h' k=>⟨o1,k _ _ D.i1z e1,r1⟩
  ·exact fun h' k=>⟨⟨o2,k _ _ D.i2z D.TOi2.symm D.i12.symm e2,r2⟩,o3,k _ _ Y.tz Y.tO Y.t1 e3,r3⟩
  ·exact fun h h' ⟨p1,q1,w1⟩ k=>⟨p1,k _ _ D.i1z D.TOi1.symm D.i12 q1,w1⟩
  ·exact fun h h' ⟨⟨p1,q1,w1⟩,p2,q2,w2⟩ k=>⟨⟨p1,k _ _ D.i2z D.TOi2.symm q1,w1⟩,p2,k _ _ Y.tz Y.tO q2,w2⟩
  ·rintro v1 v2 h' tk ⟨u,rfl⟩ rfl z' to' q1 q2 hp hsz k
   refine wpAny_pure (hQ _ u h' tk ⟨.inr ⟨_,_,false,z',hp,lt hz,lt to,lt e1,lt e2,Nat.ne_of_gt hd⟩,k _ _ D.TIz D.TITO D.TIi1 D.TIi2 ti,⟨_,_,to'⟩,q1,q2⟩ hp k hsz)
 ·have hTy:s.TypeIs (.ref z) "zip" := ⟨_,hz,rfl⟩
  unfold pyNext
  refine wpAny_bind (wpAny_attempt (wpAny_callSpecial?_slot (name:=Str.ofString "__next__") hTy F.slot_zip_next
   (wpAny_call_entry F.slot_zip_next hTy F.entry_zip_next (next_busy D hz ti hT Y1 Y2 ?_ ?_ ?_ ?_ ?_) (F.args_zip_next_1 _))))
  ·exact fun h' k=>⟨o1,k _ _ D.i1z e1,r1⟩
  ·exact fun h' k=>⟨⟨o2,k _ _ D.i2z D.i12.symm e2,r2⟩,o3,k _ _ Y.tz Y.t1 e3,r3⟩
  ·exact fun h h' ⟨p1,q1,w1⟩ k=>⟨p1,k _ _ D.i12 q1,w1⟩
  ·exact fun h h' ⟨⟨p1,q1,w1⟩,p2,q2,w2⟩ k=>⟨⟨p1,k _ _ q1,w1⟩,p2,k _ _ q2,w2⟩
  ·rintro v1 v2 h' tk ⟨u,rfl⟩ rfl z' q1 q2 hp hsz k
   exact wpAny_pure (hQ _ u h' tk ⟨.inr ⟨T,oT,true,z',k _ _ n1 n3 n4 hT,n1,n2,n3,n4,n5⟩,k _ _ D.TIz D.TIi1 D.TIi2 ti,⟨_,_,k _ _ D.TOz D.TOi1 D.TOi2 to⟩,q1,q2⟩ hp (fun c o c1 _ c3 c4 e=>k c o c1 c3 c4 e) hsz)
end
end Zp
namespace Zp
open PySem
theorem entry_loop:entryFor table "dict.update.loop" = some Builtin.«dict.update.loop»:=entryFor_of_fast (by kernel_rfl)
theorem plain_loop:plainId "dict.update.loop" = true:=by decide +kernel
end Zp
namespace Zp
open PySem
end Zp
namespace Zp
open PySem
section
variable {prog:Program}{w:World}{A:Around}{E:Value→Shared→Prop}{s:Shared}
theorem nextOf_list_item {it t:Addr}{i:Nat}{items}{x:Value}{Q:Value→Shared→Prop}(hit:s.heap.IsListIter it t i)
  (ht:s.heap.IsList t items) (hx:items[i]? = some x)
  (hQ:∀h',h'.IsListIter it t (i+1)→Heap.SameBut it s.heap h'→Q x {s with heap:=h'}) :
  wpAny (model prog w) A (Builtin.SmallTypes.nextOf (.ref it)) Q E s:=by
 obtain⟨o,ho,hc,hd⟩:=id hit
 obtain⟨ol,hol,_,nl,hdl⟩:=ht
 unfold Builtin.SmallTypes.nextOf
 refine wpAny_bind (wpAny_callSpecial?_slot (name:=Str.ofString "__next__") hit.typeIs slot_listiter_next
  (wpAny_call_entry slot_listiter_next hit.typeIs entry_listiter_next ?_ (args_listiter_next _)))
 show wpAny _ _ (field (.ref it) 0 >>= _) _ _ s
 refine wpAny_bind (wpAny_field ho hd (x:=.ref t) rfl ?_)
 show wpAny _ _ (if (Value.ref t == Value.none)=true then _ else _) _ _ s
 rw[if_neg (show ¬((Value.ref t == Value.none)=true) from Bool.false_ne_true)]
 show wpAny _ _ (field (.ref it) 1 >>= _) _ _ s
 refine wpAny_bind (wpAny_field ho hd (x:=.int i 0) rfl ?_)
 show wpAny _ _ (seqItems? (.ref t) >>= _) _ _ s
 refine wpAny_bind (wpAny_seqItems hol hdl ?_)
 simp only[Int.toNat_natCast,hx]
 refine wpAny_bind (wpAny_setField ho hd (by simp) (wpAny_pure ⟨x,rfl,wpAny_pure (hQ _ ?_ (Heap.SameBut.update ..))⟩))
 exact ⟨_,Heap.get?_update_self _ ho (Obj.isFreed_of_fields (Obj.data_mapFields hd _)),(Obj.cls_mapFields ..).trans hc,by
  rw[Obj.data_mapFields hd];simp[rawInt]⟩
theorem nextOf_list_end {it t:Addr}{i:Nat}{items}{Q:Value→Shared→Prop}(hh:A.handled=none)
  (hit:s.heap.IsListIter it t i) (ht:s.heap.IsList t items) (hx:items[i]? = none)
  (hE:∀h' e,Heap.ExtBut it s.heap h'→(∃o,h'.get? e=some o∧o.cls=.type "StopIteration")→E (.ref e) {s with heap:=h'}) :
  wpAny (model prog w) A (Builtin.SmallTypes.nextOf (.ref it)) Q E s:=by
 obtain⟨o,ho,hc,hd⟩:=id hit
 obtain⟨ol,hol,_,nl,hdl⟩:=ht
 unfold Builtin.SmallTypes.nextOf
 refine wpAny_bind (wpAny_callSpecial?_slot (name:=Str.ofString "__next__") hit.typeIs slot_listiter_next
  (wpAny_call_entry slot_listiter_next hit.typeIs entry_listiter_next ?_ (args_listiter_next _)))
 show wpAny _ _ (field (.ref it) 0 >>= _) _ _ s
 refine wpAny_bind (wpAny_field ho hd (x:=.ref t) rfl ?_)
 show wpAny _ _ (if (Value.ref t == Value.none)=true then _ else _) _ _ s
 rw[if_neg (show ¬((Value.ref t == Value.none)=true) from Bool.false_ne_true)]
 show wpAny _ _ (field (.ref it) 1 >>= _) _ _ s
 refine wpAny_bind (wpAny_field ho hd (x:=.int i 0) rfl ?_)
 show wpAny _ _ (seqItems? (.ref t) >>= _) _ _ s
 refine wpAny_bind (wpAny_seqItems hol hdl ?_)
 simp only[Int.toNat_natCast,hx]
 refine wpAny_bind (wpAny_rule (wpAny_bind (wpAny_setField ho hd (by simp) ?_)))
 show wpAny _ _ (newExc (.type "StopIteration") [] >>= _) _ _ _
 refine wpAny_bind ?_
 simp only[newExc,newTuple]
 refine wpAny_bind (wpAny_newObj_type ?_ (by size_fits))
 refine wpAny_bind (m:=firstArgMember _ _) (wpAny_of_eq (a:=Value.none) (by first|rfl|(simp only[firstArgMember];rfl)) ?_)
 refine wpAny_newObj_type ?_ (by size_fits)
 simp only[raiseNew]
 refine wpAny_bind (wpAny_handled ?_)
 first|rw[show A.in1.handled=none from hh] | rw[hh]
 refine wpAny_bind (wpAny_pure (wpAny_throw ?_))
 exact hE _ _ (((Heap.SameBut.update ..).extBut.push _).push _) ⟨_,Heap.get?_push_size _ rfl,rfl⟩
end
structure Src (prog:Program)(w:World)(it tp:Addr)(n:Nat)(g:Nat→Value)(S:Nat→Heap→Prop):Prop where
 yl:∀(A:Around) (i:Nat),i<n→Yields prog w A it (S i) (fun v=>v=g i) (S (i+1))
 en:∀(A:Around) (i:Nat),A.handled=none→n≤i→Ends prog w A it (S i)
 mv:∀(i:Nat) (h h':Heap),S i h→(∀o,h.get? it=some o→h'.get? it=some o)→(∀o,h.get? tp=some o→h'.get? tp=some o)→S i h'
 li:∀(i:Nat) (h:Heap),S i h→(∃o,h.get? it=some o)∧∃o,h.get? tp=some o
theorem src_tup {prog:Program}{w:World}{it tp:Addr}{xs:Array Value}(hne:tp≠it):Src prog w it tp xs.size (fun i=>xs.getD i .none) (fun i h=>h.IsTupleIter it tp i∧h.IsTuple tp xs) :=
 ⟨fun A i hi=>yields_tuple hne (by rw[Array.getElem?_eq_getElem hi];simp[Array.getD,hi]),fun A i hh hi=>ends_tuple hh (Array.getElem?_eq_none hi),
  fun i h h' ⟨⟨o,e,r⟩,o2,e2,r2⟩ k1 k2=>⟨⟨o,k1 _ e,r⟩,o2,k2 _ e2,r2⟩,fun i h ⟨⟨o,e,r⟩,o2,e2,r2⟩=>⟨⟨o,e⟩,o2,e2⟩⟩
theorem src_lst {prog:Program}{w:World}{it tp:Addr}{xs:Array Value}(hne:tp≠it):Src prog w it tp xs.size (fun i=>xs.getD i .none) (fun i h=>h.IsListIter it tp i∧h.IsList tp xs) :=
 ⟨fun A i hi s Q E g hQ=>nextOf_list_item g.1 g.2 (Array.getElem?_eq_getElem hi) fun h' st sb=>hQ _ h' s.toks (by simp[Array.getD,hi]) ⟨st,g.2.extBut sb.extBut hne⟩ sb,
  fun A i hh hi s Q E g hE=>nextOf_list_end hh g.1 g.2 (Array.getElem?_eq_none hi) hE,
  fun i h h' ⟨⟨o,e,r⟩,o2,e2,r2⟩ k1 k2=>⟨⟨o,k1 _ e,r⟩,o2,k2 _ e2,r2⟩,fun i h ⟨⟨o,e,r⟩,o2,e2,r2⟩=>⟨⟨o,e⟩,o2,e2⟩⟩
structure GAp (z TI TO i1 i2 p1 p2 d:Addr):Prop where
 D:Apart z TI TO i1 i2
 az:p1≠z
 aO:p1≠TO
 a2:p1≠i2
 bz:p2≠z
 bO:p2≠TO
 b1:p2≠i1
 dz:d≠z
 dI:d≠TI
 dO:d≠TO
 d1:d≠i1
 d2:d≠i2
 da:d≠p1
 db:d≠p2
structure GSt (h:Heap)(z TI TO i1 i2 d:Addr)(S1 S2:Nat→Heap→Prop)(i:Nat):Prop where
 zip:(∃f1,IsZipF h z TI TO .none (.bool f1))∨∃(T:Addr) (oT:Obj) (fb:Bool),IsZipF h z TI TO (rawInt T) (.bool fb)∧h.get? T=some oT∧T≠z∧T≠TO∧T≠i1∧T≠i2∧T≠d
 ti:IsPair h TI (.ref i1) (.ref i2)
 to:∃a b,IsPair h TO a b
 s1:S1 i h
 s2:S2 i h
section
variable {prog:Program}{w:World}{A:Around}{E:Value→Shared→Prop}{s:Shared}{z TI TO i1 i2 p1 p2 d:Addr}{n1 n2:Nat}{g1 g2:Nat→Value}{S1 S2:Nat→Heap→Prop}
theorem GSt.dict {h h':Heap}{i:Nat}(Z:GSt h z TI TO i1 i2 d S1 S2 i)(Y:GAp z TI TO i1 i2 p1 p2 d)(C1:Src prog w i1 p1 n1 g1 S1)(C2:Src prog w i2 p2 n2 g2 S2)
  (k:∀c o,c≠d→h.get? c=some o→h'.get? c=some o):GSt h' z TI TO i1 i2 d S1 S2 i:=by
 obtain⟨zp,ti,⟨a,b,to⟩,s1,s2⟩:=Z
 refine⟨?_,k _ _ (Ne.symm Y.dI) ti,⟨a,b,k _ _ (Ne.symm Y.dO) to⟩,C1.mv _ _ _ s1 (fun o=>k _ o (Ne.symm Y.d1)) (fun o=>k _ o (Ne.symm Y.da)),C2.mv _ _ _ s2 (fun o=>k _ o (Ne.symm Y.d2)) (fun o=>k _ o (Ne.symm Y.db))⟩
 rcases zp with⟨f1,hz⟩|⟨T,oT,fb,hz,hT,n1,n2,n3,n4,n5⟩
 ·exact .inl ⟨f1,k _ _ (Ne.symm Y.dz) hz⟩
 ·exact .inr ⟨T,oT,fb,k _ _ (Ne.symm Y.dz) hz,k _ _ n5 hT,n1,n2,n3,n4,n5⟩
theorem GSt.next {i:Nat}{Q:Option Value→Shared→Prop}(Z:GSt s.heap z TI TO i1 i2 d S1 S2 i)(Y:GAp z TI TO i1 i2 p1 p2 d)(C1:Src prog w i1 p1 n1 g1 S1)(C2:Src prog w i2 p2 n2 g2 S2)
  (hd:d<s.heap.objs.size) (hc:i<n1) (hy:i<n2)
  (hQ:∀(T:Addr) h' tk,GSt h' z TI TO i1 i2 d S1 S2 (i+1)→IsPair h' T (g1 i) (g2 i)→(∀c o,c≠z→c≠TO→c≠i1→c≠i2→s.heap.get? c=some o→h'.get? c=some o)→h'.objs.size=s.heap.objs.size+1→Q (some (.ref T)) {s with heap:=h',toks:=tk}) :
  wpAny (model prog w) A (pyNext (.ref z)) Q E s:=by
 obtain⟨zp,ti,⟨a,b,to⟩,s1,s2⟩:=Z
 have D:=Y.D
 obtain⟨⟨o1,e1⟩,_⟩:=C1.li _ _ s1
 obtain⟨⟨o2,e2⟩,_⟩:=C2.li _ _ s2
 have lt:∀{c:Addr}{o:Obj},s.heap.get? c=some o→s.heap.objs.size≠c:=fun e=>Nat.ne_of_gt (Heap.lt_size e)
 have Y1:=C1.yl A.in1 i hc
 have Y2:=C2.yl A.in1 i hy
 rcases zp with⟨f1,hz⟩|⟨T,oT,fb,hz,hT,n1,n2,n3,n4,n5⟩
 ·have hTy:s.TypeIs (.ref z) "zip" := ⟨_,hz,rfl⟩
  unfold pyNext
  refine wpAny_bind (wpAny_attempt (wpAny_callSpecial?_slot (name:=Str.ofString "__next__") hTy F.slot_zip_next
   (wpAny_call_entry F.slot_zip_next hTy F.entry_zip_next (next_item D hz ti to Y1 Y2 ?_ ?_ ?_ ?_ ?_) (F.args_zip_next_1 _))))
  ·exact fun h' k=>C1.mv _ _ _ s1 (fun o=>k _ o D.i1z) (fun o=>k _ o Y.az)
  ·exact fun h' k=>C2.mv _ _ _ s2 (fun o=>k _ o D.i2z D.TOi2.symm D.i12.symm) (fun o=>k _ o Y.bz Y.bO Y.b1)
  ·exact fun h h' q k=>C1.mv _ _ _ q (fun o=>k _ o D.i1z D.TOi1.symm D.i12) (fun o=>k _ o Y.az Y.aO Y.a2)
  ·exact fun h h' q k=>C2.mv _ _ _ q (fun o=>k _ o D.i2z D.TOi2.symm) (fun o=>k _ o Y.bz Y.bO)
  ·rintro v1 v2 h' tk rfl rfl z' to' q1 q2 hp hsz k
   refine wpAny_pure (hQ _ h' tk ⟨.inr ⟨_,_,false,z',hp,lt hz,lt to,lt e1,lt e2,Nat.ne_of_gt hd⟩,k _ _ D.TIz D.TITO D.TIi1 D.TIi2 ti,⟨_,_,to'⟩,q1,q2⟩ hp k hsz)
 ·have hTy:s.TypeIs (.ref z) "zip" := ⟨_,hz,rfl⟩
  unfold pyNext
  refine wpAny_bind (wpAny_attempt (wpAny_callSpecial?_slot (name:=Str.ofString "__next__") hTy F.slot_zip_next
   (wpAny_call_entry F.slot_zip_next hTy F.entry_zip_next (next_busy D hz ti hT Y1 Y2 ?_ ?_ ?_ ?_ ?_) (F.args_zip_next_1 _))))
  ·exact fun h' k=>C1.mv _ _ _ s1 (fun o=>k _ o D.i1z) (fun o=>k _ o Y.az)
  ·exact fun h' k=>C2.mv _ _ _ s2 (fun o=>k _ o D.i2z D.i12.symm) (fun o=>k _ o Y.bz Y.b1)
  ·exact fun h h' q k=>C1.mv _ _ _ q (fun o=>k _ o D.i12) (fun o=>k _ o Y.a2)
  ·exact fun h h' q k=>C2.mv _ _ _ q (fun o=>k _ o) (fun o=>k _ o)
  ·rintro v1 v2 h' tk rfl rfl z' q1 q2 hp hsz k
   exact wpAny_pure (hQ _ h' tk ⟨.inr ⟨T,oT,true,z',k _ _ n1 n3 n4 hT,n1,n2,n3,n4,n5⟩,k _ _ D.TIz D.TIi1 D.TIi2 ti,⟨_,_,k _ _ D.TOz D.TOi1 D.TOi2 to⟩,q1,q2⟩ hp (fun c o c1 _ c3 c4 e=>k c o c1 c3 c4 e) hsz)
theorem GSt.done {i:Nat}{Q:Option Value→Shared→Prop}(hh:A.handled=none)(Z:GSt s.heap z TI TO i1 i2 d S1 S2 i)(Y:GAp z TI TO i1 i2 p1 p2 d)(C1:Src prog w i1 p1 n1 g1 S1)(C2:Src prog w i2 p2 n2 g2 S2)
  (hend:min n1 n2≤i)
  (hQ:∀h' tk,(∀c o,c≠z→c≠TO→c≠i1→c≠i2→s.heap.get? c=some o→h'.get? c=some o)→Q none {s with heap:=h',toks:=tk}) :
  wpAny (model prog w) A (pyNext (.ref z)) Q E s:=by
 obtain⟨zp,ti,⟨a,b,to⟩,s1,s2⟩:=Z
 have D:=Y.D
 have hend':Ends prog w A.in1 i1 (S1 i)∨(Yields prog w A.in1 i1 (S1 i) (fun _=>True) (fun _=>True)∧Ends prog w A.in1 i2 (S2 i)):=by
  rcases Nat.lt_or_ge i n1 with h|h
  ·exact .inr ⟨fun s Q E g hQ=>C1.yl A.in1 i h s Q E g fun v h' tk _ _ sb=>hQ v h' tk trivial trivial sb,C2.en A.in1 i hh (by omega)⟩
  ·exact .inl (C1.en A.in1 i hh h)
 rcases zp with⟨f1,hz⟩|⟨T,oT,fb,hz,hT,n1,n2,n3,n4,n5⟩
 ·have hTy:s.TypeIs (.ref z) "zip" := ⟨_,hz,rfl⟩
  unfold pyNext
  refine wpAny_bind (wpAny_attempt (wpAny_callSpecial?_slot (name:=Str.ofString "__next__") hTy F.slot_zip_next
   (wpAny_call_entry F.slot_zip_next hTy F.entry_zip_next (next_end D hz ti to hend' ?_ ?_ ?_) (F.args_zip_next_1 _))))
  ·exact fun h' k=>C1.mv _ _ _ s1 (fun o=>k _ o D.i1z) (fun o=>k _ o Y.az)
  ·exact fun h' k=>C2.mv _ _ _ s2 (fun o=>k _ o D.i2z D.TOi2.symm D.i12.symm) (fun o=>k _ o Y.bz Y.bO Y.b1)
  ·intro h' tk e k he
   obtain⟨o,ho,hc⟩:=he
   refine wpAny_bind (wpAny_isInstance (T := "StopIteration") (b:=true) ⟨o,ho,hc⟩ isSubtype_stop ?_)
   exact wpAny_pure (hQ _ _ k)
 ·have hTy:s.TypeIs (.ref z) "zip" := ⟨_,hz,rfl⟩
  unfold pyNext
  refine wpAny_bind (wpAny_attempt (wpAny_callSpecial?_slot (name:=Str.ofString "__next__") hTy F.slot_zip_next
   (wpAny_call_entry F.slot_zip_next hTy F.entry_zip_next (end_busy D hz ti hT hend' ?_ ?_ ?_) (F.args_zip_next_1 _))))
  ·exact fun h' k=>C1.mv _ _ _ s1 (fun o=>k _ o D.i1z) (fun o=>k _ o Y.az)
  ·exact fun h' k=>C2.mv _ _ _ s2 (fun o=>k _ o D.i2z D.i12.symm) (fun o=>k _ o Y.bz Y.b1)
  ·intro h' tk e k he
   obtain⟨o,ho,hc⟩:=he
   refine wpAny_bind (wpAny_isInstance (T := "StopIteration") (b:=true) ⟨o,ho,hc⟩ isSubtype_stop ?_)
   exact wpAny_pure (hQ _ _ fun c o c1 _ c3 c4 e=>k c o c1 c3 c4 e)
end
section
variable {prog:Program}{w:World}{K:Type} [DecidableEq K]{knd:KeyKind prog w K}{A:Around}{R:Result→Shared→Prop}{z TI TO i1 i2 p1 p2 d:Addr}{n1 n2:Nat}{g1 g2:Nat→Value}{S1 S2:Nat→Heap→Prop}
theorem upd_loopG (hh:A.handled=none)(Y:GAp z TI TO i1 i2 p1 p2 d)(C1:Src prog w i1 p1 n1 g1 S1)(C2:Src prog w i2 p2 n2 g2 S2)(f:Nat→K)(hk:∀i,i<min n1 n2→knd.is (f i) (g1 i)=true)(hsm:n1≤1000) :
  ∀ (n i:Nat) (s:Shared) (kvs:List (K×Value)) (q:Int) (tq:Tok),min n1 n2 - i=n→i≤min n1 n2→GSt s.heap z TI TO i1 i2 d S1 S2 i→s.heap.DictOf knd d kvs→kvs.length≤i →
   (∀h' tk,h'.DictOf knd d (((List.range (min n1 n2)).drop i).foldl (fun m j=>stored m (f j) (g2 j)) kvs)→(∀c o,c≠z→c≠TO→c≠i1→c≠i2→c≠d→s.heap.get? c=some o→h'.get? c=some o) →
    R (.ok (.ret .none)) {s with heap:=h',toks:=tk}) →
   codeAny (model prog w) A (.builtin "dict.update.loop" ⟨[.ref d,.ref z,.int q tq,.none],[]⟩) R s:=by
 intro n
 induction n with
 | zero =>
  intro i s kvs q tq hn hi Z hm hl hR
  refine codeAny_builtin entry_loop ?_
  rw[Around.under_plainId plain_loop _]
  show wpAny _ A.in1 (pyNext (.ref z) >>= _) _ _ s
  refine wpAny_bind (Z.done hh Y C1 C2 (by omega) fun h' tk k=>?_)
  refine wpAny_bind (m:=Builtin.Dict.addKeywords d []) (wpAny_pure (wpAny_pure ?_))
  have e:(List.range (min n1 n2)).drop i=[]:=List.drop_of_length_le (by rw[List.length_range];omega)
  rw[e] at hR
  refine hR h' tk ?_ fun c o c1 c2 c3 c4 _ e=>k c o c1 c2 c3 c4 e
  obtain⟨o,ho,r⟩:=Heap.dictOf_iff.mp hm
  exact Heap.dictOf_iff.mpr ⟨o,k _ _ Y.dz Y.dO Y.d1 Y.d2 ho,r⟩
 | succ n ih =>
  intro i s kvs q tq hn hi Z hm hl hR
  refine codeAny_builtin entry_loop ?_
  rw[Around.under_plainId plain_loop _]
  show wpAny _ A.in1 (pyNext (.ref z) >>= _) _ _ s
  have hd:d<s.heap.objs.size:=by obtain⟨o,ho,_⟩:=Heap.dictOf_iff.mp hm;exact Heap.lt_size ho
  refine wpAny_bind (Z.next Y C1 C2 hd (by omega) (by omega) fun T h' tk Z' hp k hsz=>?_)
  dsimp only
  have hT:(⟨h',s.gens,s.drawn,tk,s.os⟩:Shared).TypeIs (.ref T) "tuple" := ⟨_,hp,rfl⟩
  refine wpAny_bind (wpAny_holding (wpAny_bind (wpAny_tryCatch ?_)))
  unfold Builtin.Dict.pairItems
  refine wpAny_bind (wpAny_typeOf hT ?_)
  rw[if_pos (by decide)]
  refine wpAny_bind (wpAny_seqItems hp rfl (wpAny_pure ?_))
  show wpAny _ A.in1 (holding [g1 i,g2 i] (dictSet d (g1 i) (g2 i))) _ _ _
  have hm':h'.DictOf knd d kvs:=by
   obtain⟨o,ho,r⟩:=Heap.dictOf_iff.mp hm
   exact Heap.dictOf_iff.mpr ⟨o,k _ _ Y.dz Y.dO Y.d1 Y.d2 ho,r⟩
  refine wpAny_holding (wpAny_dictSet_pairs (hk i (by omega)) hm' (fun h'' hm'' sb=>?_) (by rw[sizeLine_eq];omega))
  refine wpAny_pure ⟨plainId_quiet plain_loop _,?_⟩
  have hl2:(stored kvs (f i) (g2 i)).length≤i+1:=by
   have:=stored_length_le kvs (f i) (g2 i)
   omega
  refine ih (i+1) _ _ _ _ (by omega) (by omega) (Z'.dict Y C1 C2 fun c o hc e=>sb.extBut _ _ hc e) hm'' hl2 fun h3 tk3 hm3 k3=>?_
  have e:(List.range (min n1 n2)).drop i=i::(List.range (min n1 n2)).drop (i+1):=by
   rw[List.drop_eq_getElem_cons (by rw[List.length_range];omega)]
   simp
  rw[e,List.foldl_cons] at hR
  exact hR h3 tk3 hm3 fun c o c1 c2 c3 c4 c5 e=>k3 c o c1 c2 c3 c4 c5 (sb.extBut _ _ c5 (k c o c1 c2 c3 c4 e))
end
section
variable {prog:Program}{w:World}{K:Type} [DecidableEq K]{knd:KeyKind prog w K}{A:Around}{E:Value→Shared→Prop}{s:Shared}{z TI TO i1 i2 p1 p2:Addr}{n1 n2:Nat}{g1 g2:Nat→Value}{S1 S2:Nat→Heap→Prop}
theorem call_dict_zipG {Q:Value→Shared→Prop}(hh:A.handled=none)(D:Apart z TI TO i1 i2)(az:p1≠z)(aO:p1≠TO)(a2:p1≠i2)(bz:p2≠z)(bO:p2≠TO)(b1:p2≠i1)
  (C1:Src prog w i1 p1 n1 g1 S1) (C2:Src prog w i2 p2 n2 g2 S2) (f:Nat→K) (hk:∀i,i<min n1 n2→knd.is (f i) (g1 i)=true) (hsm:n1≤1000)
  (hz:IsZipF s.heap z TI TO .none (.bool false)) (hTI:IsPair s.heap TI (.ref i1) (.ref i2)) (hTO:IsPair s.heap TO .none .none) (s1:S1 0 s.heap) (s2:S2 0 s.heap)
  (h:∀h' tk,h'.DictOf knd s.heap.objs.size ((List.range (min n1 n2)).foldl (fun m j=>stored m (f j) (g2 j)) [])→(∀c o,c≠z→c≠TO→c≠i1→c≠i2→s.heap.get? c=some o→h'.get? c=some o) →
   Q (.ref s.heap.objs.size) {s with heap:=h',toks:=tk}) :
  wpAny (model prog w) A (call (.type "dict") [.ref z]) Q E s:=by
 refine callType_codes (Q₁:=fun obj s₁=>obj=.ref s.heap.objs.size∧s₁={s with heap:=s.heap.push {cls:=.type "dict", data:=.dict #[]} }) F.kt_called_dict (F.kt_typeCall_dict_1 _) F.entry_dict_init (kt_code_dict_new _ ⟨rfl,rfl⟩) ?_
 rintro obj s₁ ⟨rfl,rfl⟩
 have hnew:(s.heap.push {cls:=.type "dict", data:=.dict #[]}).DictOf knd s.heap.objs.size []:=Heap.DictOf.new s.heap
 have up:∀c o,s.heap.get? c=some o→(s.heap.push {cls:=.type "dict", data:=.dict #[]}).get? c=some o:=fun c o e=>Heap.get?_push_of_some _ e
 have hz':=up _ _ hz
 have hzT:({s with heap:=s.heap.push {cls:=.type "dict", data:=.dict #[]} }:Shared).TypeIs (.ref z) "zip" := ⟨_,hz',rfl⟩
 have lt:∀{c:Addr}{o:Obj},s.heap.get? c=some o→s.heap.objs.size≠c:=fun e=>Nat.ne_of_gt (Heap.lt_size e)
 obtain⟨⟨o1,e1⟩,q1,f1⟩:=C1.li _ _ s1
 obtain⟨⟨o2,e2⟩,q2,f2⟩:=C2.li _ _ s2
 have Y:GAp z TI TO i1 i2 p1 p2 s.heap.objs.size:=⟨D,az,aO,a2,bz,bO,b1,lt hz,lt hTI,lt hTO,lt e1,lt e2,lt f1,lt f2⟩
 refine⟨hnew.typeIs,F.args_dict_init_2 _ _,?_⟩
 unfold Builtin.«dict.__init__»
 refine wpAny_bind ?_
 unfold Builtin.Dict.selfAndRest
 refine wpAny_bind (wpAny_notOrdered_dict hnew.typeIs ?_)
 show wpAny _ _ (pure (s.heap.objs.size,[Value.ref z])) _ _ _
 refine wpAny_pure ?_
 show wpAny _ _ (Builtin.Dict.updateFrom "dict.__init__" s.heap.objs.size (.ref z) [] .none) _ _ _
 unfold Builtin.Dict.updateFrom
 refine wpAny_bind (wpAny_typeOf hzT ?_)
 rw[if_pos (by decide)]
 refine wpAny_bind (no_keys hz' hh fun h4 tk4 k4=>?_)
 simp only[Option.isNone_none,if_true]
 refine wpAny_bind (wpAny_rule ?_)
 have kk:∀c o,s.heap.get? c=some o→h4.get? c=some o:=fun c o e=>k4 _ _ (up _ _ e)
 have Z:GSt h4 z TI TO i1 i2 s.heap.objs.size S1 S2 0:=⟨.inl ⟨false,k4 _ _ hz'⟩,kk _ _ hTI,⟨_,_,kk _ _ hTO⟩,C1.mv _ _ _ s1 (fun o=>kk _ o) (fun o=>kk _ o),C2.mv _ _ _ s2 (fun o=>kk _ o) (fun o=>kk _ o)⟩
 have hm:h4.DictOf knd s.heap.objs.size []:=by
  obtain⟨o,ho,r⟩:=Heap.dictOf_iff.mp hnew
  exact Heap.dictOf_iff.mpr ⟨o,k4 _ _ ho,r⟩
 refine wpAny_bind (wpAny_pyIter_zip (k4 _ _ hz') ?_)
 refine wpAny_pure ⟨plainId_quiet plain_loop _,?_⟩
 refine upd_loopG (knd:=knd) (A:=A.in1) hh Y C1 C2 f hk hsm _ 0 _ [] _ _ rfl (Nat.zero_le _) Z hm (Nat.le_refl _) fun h5 tk5 hm5 k5=>?_
 exact⟨rfl,h h5 tk5 (by simpa using hm5) fun c o c1 c2 c3 c4 e=>k5 c o c1 c2 c3 c4 (fun q=>lt e q.symm) (kk _ _ e)⟩
end
section
variable {prog:Program}{w:World}{A:Around}{E:Value→Shared→Prop}{s:Shared}
abbrev lIter (t:Addr):Obj:={cls:=.type "list_iterator", data:=.fields #[.ref t,.int 0 0]}
def Itb (l:Addr)(o:Obj)(G:Heap→Prop):Prop:=∀(prog:Program) (w:World) (A:Around) (s:Shared) (Q:Value→Shared→Prop) (E:Value→Shared→Prop),G s.heap→Q (.ref s.heap.objs.size) {s with heap:=s.heap.push o}→wpAny (model prog w) A (pyIter (.ref l)) Q E s
theorem itb_tup (l:Addr)(xs:Array Value):Itb l (tIter l) (fun h=>h.IsTuple l xs):=fun _ _ _ _ _ _ g q=>wpAny_pyIter_tuple g q
theorem itb_lst (l:Addr)(xs:Array Value):Itb l (lIter l) (fun h=>h.IsList l xs):=fun _ _ _ _ _ _ g q=>wpAny_pyIter_list g q
theorem meets_gg {l1 l2:Addr}{o1 o2:Obj}{G1 G2:Heap→Prop}(b1:Itb l1 o1 G1)(b2:Itb l2 o2 G2)(up:∀h,G2 h→G2 (h.push o1)) :
  Meets (Builtin.«zip.__new__» ⟨[.type "zip", .ref l1,.ref l2],[]⟩) (fun _ R s=>G1 s.heap∧G2 s.heap ∧
   R (.ok (.ret (.ref (zH4 s.heap o1 o2).objs.size))) {s with heap:=zH5 s.heap o1 o2}) :=
 .of_wp fun prog w A R s h=>by
  obtain⟨hl1,hl2,h⟩:=h
  have z3:(zH3 s.heap o1 o2).objs.size=(zH2 s.heap o1 o2).objs.size+1:=Heap.size_push ..
  have z4:(zH4 s.heap o1 o2).objs.size=(zH2 s.heap o1 o2).objs.size+2:=by rw[Heap.size_push,z3]
  refine meets_st_aux (h1:=s.heap.push o1) (h2:=zH2 s.heap o1 o2) (i1:=s.heap.objs.size) (i2:=(s.heap.push o1).objs.size)
   (fun Q E q=>b1 prog w A.in1 s Q E hl1 q) (fun Q E q=>b2 prog w A.in1 {s with heap:=s.heap.push o1} Q E (up _ hl2) q) ⟨_,rfl,?_⟩
  rw[← z4,← z3]
  exact h
theorem call_zipG {l1 l2:Addr}{o1 o2:Obj}{G1 G2:Heap→Prop}{Q:Value→Shared→Prop}(f1:o1.isFreed=false)(f2:o2.isFreed=false)(b1:Itb l1 o1 G1)(b2:Itb l2 o2 G2)(up:∀h,G2 h→G2 (h.push o1))(hl1:G1 s.heap)(hl2:G2 s.heap)
  (h:∀h',Made5 s.heap h' o1 o2→Q (.ref (s.heap.objs.size+4)) {s with heap:=h'}) :
  wpAny (model prog w) A (call (.type "zip") [.ref l1,.ref l2]) Q E s:=by
 refine callType_new F.called_zip (by decide) (F.typeCall_zip_2 _ _) (F.newCall_zip_2 _ _) (fun obj=>F.args_object_init_3 obj _ _) F.entry_zip_new
  (meets_gg b1 b2 up) ⟨hl1,hl2,?_⟩
 obtain⟨m,z4⟩:=made5 s.heap o1 o2 f1 f2
 show _∧_
 rw[z4]
 exact⟨⟨_,m.1,rfl⟩,h _ m⟩
end
end Zp
set_option maxHeartbeats 1000000
namespace L2
open PySem PySem.Spec PyProof.Rows
def TxtOk (x:Str):Prop:=PyData.strOk x=true∧x.length≤1000000
mutual
inductive Is (K:PySem.W.Frag)(H:Hp):V→PyData→Prop
 | non:Is K H .non .none
 | bl (b:Bool):Is K H (.bl b) (.bool b)
 | int (i:Int):Is K H (.int i) (.int i)
 | str (x:Str) (ok:TxtOk x):Is K H (.str x) (.str x)
 | lst {a:Addr}{xs:List V}{ds:List PyData}:SqL K H a xs→Iss K H xs ds→Is K H (.ref a) (.list ds)
 | tup {a:Addr}{xs:List V}{ds:List PyData}:SqT K H a xs→Iss K H xs ds→Is K H (.ref a) (.tuple ds)
inductive Iss (K:PySem.W.Frag)(H:Hp):List V→List PyData→Prop
 | nil:Iss K H [] []
 | cons {v:V}{d:PyData}{vs:List V}{ds:List PyData}:Is K H v d→Iss K H vs ds→Iss K H (v::vs) (d::ds)
end
theorem Same.seqT {K:PySem.W.Frag}{H H':Hp}{a:Addr}{xs:List V}(e:Same H H')(h:SqT K H a xs):SqT K H' a xs:=by
 rcases h with(h|⟨o,h⟩)|h
 ·exact .inl (.inl (e _ _ h))
 ·exact .inl (.inr ⟨o,e _ _ h⟩)
 ·exact .inr h
section
variable {K:PySem.W.Frag}{H H':Hp}
theorem Is.mono_both (e:Same H H'):(∀{v:V}{d:PyData},Is K H v d→Is K H' v d)∧(∀{vs:List V}{ds:List PyData},Iss K H vs ds→Iss K H' vs ds):=by
 refine⟨fun {v d} h=>?_,fun {vs ds} h=>?_⟩
 ·exact Is.rec (motive_1:=fun v d _=>Is K H' v d) (motive_2:=fun vs ds _=>Iss K H' vs ds) .non .bl .int .str (fun q _ ih=>.lst (e.seq q) ih) (fun q _ ih=>.tup (e.seqT q) ih) .nil (fun _ _ a b=>.cons a b) h
 ·exact Iss.rec (motive_1:=fun v d _=>Is K H' v d) (motive_2:=fun vs ds _=>Iss K H' vs ds) .non .bl .int .str (fun q _ ih=>.lst (e.seq q) ih) (fun q _ ih=>.tup (e.seqT q) ih) .nil (fun _ _ a b=>.cons a b) h
theorem Is.mono {v:V}{d:PyData}(h:Is K H v d)(e:Same H H'):Is K H' v d:=(Is.mono_both e).1 h
theorem Iss.mono {vs:List V}{ds:List PyData}(h:Iss K H vs ds)(e:Same H H'):Iss K H' vs ds:=(Is.mono_both e).2 h
theorem Iss.length:∀{vs:List V}{ds:List PyData},Iss K H vs ds→vs.length=ds.length
 | _,_,.nil=>rfl
 | _,_,.cons _ r=>by simp[r.length]
theorem Iss.append:∀{vs ws:List V}{ds es:List PyData},Iss K H vs ds→Iss K H ws es→Iss K H (vs++ws) (ds++es)
 | _,_,_,_,.nil,s=>s
 | _,_,_,_,.cons r t,s=>.cons r (Iss.append t s)
theorem Iss.get:∀{vs:List V}{ds:List PyData}{i:Nat}{v:V},Iss K H vs ds→vs[i]? = some v→∃d,ds[i]? = some d∧Is K H v d
 | _,_,_,_,.nil,e=>by simp at e
 | _,_,0,_,.cons r _,e=>by simp at e;subst e;exact⟨_,rfl,r⟩
 | _,_,i+1,v,.cons _ t,e=>by
  obtain⟨d,h1,h2⟩:=Iss.get (i:=i) (v:=v) t (by simpa using e)
  exact⟨d,by simpa using h1,h2⟩
theorem Iss.take:∀{vs:List V}{ds:List PyData} (n:Nat),Iss K H vs ds→Iss K H (vs.take n) (ds.take n)
 | _,_,0,_=>.nil
 | _,_,_+1,.nil=>.nil
 | _,_,n+1,.cons r t=>.cons r (Iss.take n t)
theorem Iss.drop:∀{vs:List V}{ds:List PyData} (n:Nat),Iss K H vs ds→Iss K H (vs.drop n) (ds.drop n)
 | _,_,0,r=>r
 | _,_,_+1,.nil=>.nil
 | _,_,n+1,.cons _ t=>Iss.drop n t
theorem Is.can_both:(∀{v:V}{d:PyData},Is K H v d→d.canLay0=true)∧(∀{vs:List V}{ds:List PyData},Iss K H vs ds→PyData.canLayAll0 ds=true):=by
 have hs:∀(x:Str),TxtOk x→(PyData.str x).canLay0=true:=fun x h=>h.1
 refine⟨fun {v d} h=>?_,fun {vs ds} h=>?_⟩
 ·exact Is.rec (motive_1:=fun v d _=>d.canLay0=true) (motive_2:=fun vs ds _=>PyData.canLayAll0 ds=true) rfl (fun _=>rfl) (fun _=>rfl) hs (fun _ _ ih=>ih) (fun _ _ ih=>ih) rfl (fun _ _ a b=>by simp[PyData.canLayAll0,a,b]) h
 ·exact Iss.rec (motive_1:=fun v d _=>d.canLay0=true) (motive_2:=fun vs ds _=>PyData.canLayAll0 ds=true) rfl (fun _=>rfl) (fun _=>rfl) hs (fun _ _ ih=>ih) (fun _ _ ih=>ih) rfl (fun _ _ a b=>by simp[PyData.canLayAll0,a,b]) h
theorem Is.can {v:V}{d:PyData}(h:Is K H v d):d.canLay0=true:=Is.can_both.1 h
end
section
variable {X:Cx}{pins:List (Addr×Obj)}{σ:St}{H:Hp}{s:Shared}
theorem Inv.reads_both (I:Inv X pins σ H s):(∀{v:V}{d:PyData},Is X.K H v d→∀{u:Value},RelV v u→∃as,Reads s.heap u d as)∧(∀{vs:List V}{ds:List PyData},Iss X.K H vs ds→∀{us:List Value},Vals vs us→∃as,ReadsAll s.heap us ds as):=by
 have h1:∀{u:Value},RelV .non u→∃as,Reads s.heap u .none as:=fun {u} r=>by cases r;exact⟨_,.none⟩
 have h2:∀(b:Bool) {u:Value},RelV (.bl b) u→∃as,Reads s.heap u (.bool b) as:=fun b {u} r=>by cases r;exact⟨_,.bool b⟩
 have h3:∀(i:Int) {u:Value},RelV (.int i) u→∃as,Reads s.heap u (.int i) as:=fun i {u} r=>by obtain⟨t,rfl⟩:=r;exact⟨_,.int i t⟩
 have h4:∀(x:Str),TxtOk x→∀{u:Value},RelV (.str x) u→∃as,Reads s.heap u (.str x) as:=fun x _ {u} r=>by obtain⟨t,rfl⟩:=r;exact⟨_,.str x t⟩
 have h5:∀{a:Addr}{xs:List V}{ds:List PyData} (_:SqL X.K H a xs) (_:Iss X.K H xs ds),(∀{us:List Value},Vals xs us→∃as,ReadsAll s.heap us ds as)→∀{u:Value},RelV (.ref a) u→∃as,Reads s.heap u (.list ds) as:=by
  intro a xs ds q _ ih u r
  cases r
  obtain⟨its,rv,⟨o,n,e,hc,_,hd⟩,_⟩:=I.list q
  obtain⟨as,ra⟩:=ih rv
  exact⟨_,.list e hc hd (by simpa using ra)⟩
 have h6:∀{a:Addr}{xs:List V}{ds:List PyData} (_:SqT X.K H a xs) (_:Iss X.K H xs ds),(∀{us:List Value},Vals xs us→∃as,ReadsAll s.heap us ds as)→∀{u:Value},RelV (.ref a) u→∃as,Reads s.heap u (.tuple ds) as:=by
  intro a xs ds q _ ih u r
  cases r
  obtain⟨its,rv,⟨o,e,hc,n,hd⟩,_⟩:=I.tuple q
  obtain⟨as,ra⟩:=ih rv
  exact⟨_,.tuple e hc hd (by simpa using ra)⟩
 have h7:∀{us:List Value},Vals [] us→∃as,ReadsAll s.heap us [] as:=fun {us} r=>by cases r;exact⟨_,.nil⟩
 have h8:∀{v:V}{d:PyData}{vs:List V}{ds:List PyData} (_:Is X.K H v d) (_:Iss X.K H vs ds),(∀{u:Value},RelV v u→∃as,Reads s.heap u d as)→(∀{us:List Value},Vals vs us→∃as,ReadsAll s.heap us ds as)→∀{us:List Value},Vals (v::vs) us→∃as,ReadsAll s.heap us (d::ds) as:=by
  intro v d vs ds _ _ a b us r
  cases r with
  | cons r t =>
   obtain⟨_,ra⟩:=a r
   obtain⟨_,rb⟩:=b t
   exact⟨_,.cons ra rb⟩
 refine⟨fun {v d} h=>?_,fun {vs ds} h=>?_⟩
 ·exact Is.rec (motive_1:=fun v d _=>∀{u:Value},RelV v u→∃as,Reads s.heap u d as) (motive_2:=fun vs ds _=>∀{us:List Value},Vals vs us→∃as,ReadsAll s.heap us ds as) h1 h2 h3 h4 h5 h6 h7 h8 h
 ·exact Iss.rec (motive_1:=fun v d _=>∀{u:Value},RelV v u→∃as,Reads s.heap u d as) (motive_2:=fun vs ds _=>∀{us:List Value},Vals vs us→∃as,ReadsAll s.heap us ds as) h1 h2 h3 h4 h5 h6 h7 h8 h
theorem Inv.reads (I:Inv X pins σ H s){v:V}{d:PyData}{u:Value}(h:Is X.K H v d)(r:RelV v u):∃as,Reads s.heap u d as:=I.reads_both.1 h r
def rEqD (K:PySem.W.Frag):R2:=fun x y H Q=>∃d e,Is K H x d∧Is K H y e∧d.depth≤60∧Q (.bl (PyData.eqv d e)) H
def rNeD (K:PySem.W.Frag):R2:=fun x y H Q=>∃d e,Is K H x d∧Is K H y e∧d.depth≤60∧Q (.bl (!PyData.eqv d e)) H
theorem op_eqD (hu:X.A.units+64<cLine):OpR X (compareOp .Eq) (rEqD X.K):=by
 intro pins s σ H x y v u Q I rx ry h
 obtain⟨d,e,hd,he,hz,q⟩:=h
 obtain⟨_,ra⟩:=I.reads hd rx
 obtain⟨_,rb⟩:=I.reads he ry
 exact SeqAt.rcAt_reads ra rb hd.can he.can (by omega) X.prog X.w X.xe _ (fin_bl I q rfl)
theorem op_neD (hu:X.A.units+64<cLine):OpR X (compareOp .NotEq) (rNeD X.K):=by
 intro pins s σ H x y v u Q I rx ry h
 obtain⟨d,e,hd,he,hz,q⟩:=h
 obtain⟨_,ra⟩:=I.reads hd rx
 obtain⟨_,rb⟩:=I.reads he ry
 exact SeqAt.rcNeAt_reads ra rb hd.can he.can (by omega) X.prog X.w X.xe _ (fin_bl I q rfl)
end
end L2
namespace L2
open PySem PySem.Spec PyProof.Rows
def closOf (scope:Scope)(env:Env):List (Str×Addr):=scope.names.foldl (fun cs y=>if y.2 == NameKind.free then(y.1,(env.cells.lookup y.1).getD 0)::cs else cs) []
theorem closureFor_eq {scope:Scope}{env:Env}(h:∀y∈scope.names,y.2=.free→∃c,env.cells.lookup y.1=some c):closureFor scope env=pure (closOf scope env):=by
 have key:∀(names:List (Str×NameKind)) (cs:List (Str×Addr)),(∀y∈names,y.2=.free→∃c,env.cells.lookup y.1=some c) →
   (forIn names cs (fun(x:Str×NameKind) (r:List (Str×Addr))=>if (x.2 == NameKind.free)=true then(do let a ← cellOf env x.1;pure (ForInStep.yield ((x.1,a)::r)):Sem (ForInStep (List (Str×Addr)))) else pure (ForInStep.yield r))) =
    pure (names.foldl (fun cs y=>if y.2 == NameKind.free then(y.1,(env.cells.lookup y.1).getD 0)::cs else cs) cs):=by
  intro names
  induction names with
  | nil=>intro cs _;rfl
  | cons y r ih =>
   intro cs hy
   have hr:∀z∈r,z.2=.free→∃c,env.cells.lookup z.1=some c:=fun z hz=>hy z (List.mem_cons_of_mem _ hz)
   rw[List.forIn_cons,List.foldl_cons]
   cases hk:(y.2 == NameKind.free) with
   | false =>
    simp only[Bool.false_eq_true,if_false]
    exact ih cs hr
   | true =>
    have e:y.2=.free:=by simpa using hk
    obtain⟨c,hc⟩:=hy y List.mem_cons_self e
    have hco:cellOf env y.1=pure c:=by unfold cellOf;rw[hc]
    simp only[if_true,hco,hc,Option.getD_some]
    exact ih _ hr
 unfold closureFor closOf
 have:=key scope.names [] h
 first|exact(congrArg (· >>= fun r=>pure r) this).trans rfl|exact this|simpa using this
theorem closOf_mem {scope:Scope}{env:Env}(h:∀y∈scope.names,y.2=.free→∃c,env.cells.lookup y.1=some c):∀p∈closOf scope env,env.cells.lookup p.1=some p.2∧(p.1,NameKind.free)∈scope.names:=by
 have key:∀(names:List (Str×NameKind)) (cs:List (Str×Addr)),(∀y∈names,y∈scope.names)→(∀p∈cs,env.cells.lookup p.1=some p.2∧(p.1,NameKind.free)∈scope.names) →
   ∀p∈names.foldl (fun cs y=>if y.2 == NameKind.free then(y.1,(env.cells.lookup y.1).getD 0)::cs else cs) cs,env.cells.lookup p.1=some p.2∧(p.1,NameKind.free)∈scope.names:=by
  intro names
  induction names with
  | nil=>intro cs _ hc;exact hc
  | cons y r ih =>
   intro cs hs hc
   rw[List.foldl_cons]
   refine ih _ (fun z hz=>hs z (List.mem_cons_of_mem _ hz)) ?_
   cases hk:(y.2 == NameKind.free) with
   | false=>simp only[Bool.false_eq_true,if_false];exact hc
   | true =>
    have e:y.2=.free:=by simpa using hk
    obtain⟨c,hcc⟩:=h y (hs y List.mem_cons_self) e
    simp only[if_true]
    intro p hp
    rcases List.mem_cons.mp hp with rfl|hp
    ·exact⟨by rw[hcc];rfl,by have:=hs y List.mem_cons_self;rw[← e];exact this⟩
    ·exact hc p hp
 exact key scope.names [] (fun _ h=>h) (fun p hp=>by cases hp)
theorem lookup_of_key {l:List (Str×Addr)}{x:Str}(h:∃p∈l,p.1=x):∃c,l.lookup x=some c:=by
 induction l with
 | nil=>obtain⟨p,hp,_⟩:=h;cases hp
 | cons q r ih =>
  rw[List.lookup_cons]
  cases hq:(x == q.1) with
  | true=>exact⟨_,rfl⟩
  | false =>
   obtain⟨p,hp,e⟩:=h
   rcases List.mem_cons.mp hp with rfl|hp
   ·subst e;simp at hq
   ·exact ih ⟨p,hp,e⟩
theorem closOf_has {scope:Scope}{env:Env}{x:Str}(hx:(x,NameKind.free)∈scope.names):∃c,(closOf scope env).lookup x=some c:=by
 refine lookup_of_key ?_
 have key:∀(names:List (Str×NameKind)) (cs:List (Str×Addr)),((x,NameKind.free)∈names∨∃p∈cs,p.1=x) →
   ∃p∈names.foldl (fun cs y=>if y.2 == NameKind.free then(y.1,(env.cells.lookup y.1).getD 0)::cs else cs) cs,p.1=x:=by
  intro names
  induction names with
  | nil=>intro cs h;rcases h with h|h;cases h;exact h
  | cons y r ih =>
   intro cs h
   rw[List.foldl_cons]
   refine ih _ ?_
   rcases h with h|⟨p,hp,e⟩
   ·rcases List.mem_cons.mp h with h|h
    ·subst h
     exact .inr ⟨_,List.mem_cons_self,rfl⟩
    ·exact .inl h
   ·refine .inr ⟨p,?_,e⟩
    cases (y.2 == NameKind.free) with
    | true=>exact List.mem_cons_of_mem _ hp
    | false=>exact hp
 exact key scope.names [] (.inl hx)
theorem relabel_lookup {scope:Scope}{env:Env}{x:Str}:(relabel scope env).names.lookup x=(scope.names.lookup x).map fun k=>if (k == NameKind.free&&env.scope.kind == .function&&env.kindOf x == some .cell) then NameKind.cell else k:=by
 show(scope.names.map _).lookup x=_
 induction scope.names with
 | nil=>rfl
 | cons y r ih =>
  obtain⟨n,k⟩:=y
  rw[List.map_cons,List.lookup_cons]
  cases hx:(x == n) with
  | true =>
   have e:x=n:=by simpa using hx
   subst e
   show List.lookup x ((if (k == NameKind.free&&env.scope.kind == .function&&env.kindOf x == some .cell)=true then(x,NameKind.cell) else(x,k))::_)=_
   split
   ·rename_i h
    simp only[List.lookup_cons,hx,Option.map_some]
    rw[if_pos h]
   ·rename_i h
    simp only[List.lookup_cons,hx,Option.map_some]
    rw[if_neg h]
  | false =>
   show List.lookup x ((if (k == NameKind.free&&env.scope.kind == .function&&env.kindOf n == some .cell)=true then(n,NameKind.cell) else(n,k))::_)=_
   split <;>simp only[List.lookup_cons,hx] <;>exact ih
structure CompOk (X:Cx)(scope:Scope)(caps:List Nat):Prop where
 kind:scope.kind=.function
 ncell:∀y∈scope.names,y.2=.cell→scope.names.lookup y.1=some .cell
 locs:∀y∈scope.names,y.2=.local→scope.names.lookup y.1=some .local
 free:∀y∈scope.names,y.2=.free→X.env.kindOf y.1=some .cell∨X.env.kindOf y.1=some .free
 caps:∀i∈caps,∃y,X.N[i]? = some y∧scope.names.lookup y=some .free
def capN (X:Cx)(own:List Str)(caps:List Nat):List Str:=own++caps.map fun i=>X.N.getD i Str.empty
def capS (own:List Str)(caps:List Nat)(σ:St):St:=own.map (fun _=>none)++caps.map fun i=>(σ[i]?).getD none
def ownC (scope:Scope)(C:Addr):List (Str×Addr):=cellsFrom (C+1) scope.names []
def allC (scope:Scope)(env:Env)(C:Addr):List (Str×Addr):=ownC scope C++closOf scope env
theorem cellsFrom_acc:∀(names:List (Str×NameKind)) (n:Nat) (acc:List (Str×Addr)),cellsFrom n names acc=cellsFrom n names []++acc:=by
 intro names
 induction names with
 | nil=>intro n acc;rfl
 | cons y r ih =>
  obtain⟨x,k⟩:=y
  intro n acc
  unfold cellsFrom
  split
  ·rw[ih _ ((x,n)::acc),ih _ [(x,n)],List.append_assoc];rfl
  ·exact ih n acc
theorem cellsFrom_mem:∀(names:List (Str×NameKind)) (n:Nat) (x:Str) (c:Addr),(x,c)∈cellsFrom n names []→(x,NameKind.cell)∈names:=by
 intro names
 induction names with
 | nil=>intro n x c h;cases h
 | cons y r ih =>
  obtain⟨z,k⟩:=y
  intro n x c h
  unfold cellsFrom at h
  split at h
  ·rename_i hk
   rw[cellsFrom_acc] at h
   rcases List.mem_append.mp h with h|h
   ·exact List.mem_cons_of_mem _ (ih _ _ _ h)
   ·have e:=List.mem_singleton.mp h
    injection e with e1 e2
    subst e1
    have ek:k=.cell:=by simpa using hk
    subst ek
    exact List.mem_cons_self
  ·exact List.mem_cons_of_mem _ (ih _ _ _ h)
theorem lookup_app {l r:List (Str×Addr)}{x:Str}{c:Addr}(h:(l++r).lookup x=some c):l.lookup x=some c∨(l.lookup x=none∧r.lookup x=some c):=by
 rw[List.lookup_append] at h
 cases e:l.lookup x with
 | none=>rw[e] at h;exact .inr ⟨rfl,h⟩
 | some d=>rw[e] at h;exact .inl h
theorem lookup_l {l r:List (Str×Addr)}{x:Str}{c:Addr}(h:l.lookup x=some c):(l++r).lookup x=some c:=by rw[List.lookup_append,h];rfl
theorem lookup_r {l r:List (Str×Addr)}{x:Str}{c:Addr}(n:l.lookup x=none)(h:r.lookup x=some c):(l++r).lookup x=some c:=by rw[List.lookup_append,n];exact h
def cxC (X:Cx)(pins:List (Addr×Obj))(scope:Scope)(own:List Str)(caps:List Nat)(C:Addr)(ex:List Addr)(s:Shared)(H:Hp):Cx :=
 {X with N:=capN X own caps,s₀:=s,H₀:=H,env:=compEnvC scope (allC scope X.env C) C X.env,outer:=X.stack,ex:=ex,fn:=fun x=>scope.names.lookup x == some .cell,pn:=X.pn++pins,xe:=fun _ _=>False}
section
variable {X:Cx}{pins:List (Addr×Obj)}{σ:St}{H:Hp}{s:Shared}{scope:Scope}{own:List Str}{caps:List Nat}
theorem Inv.track {D:Addr}{o:HO} (I:Inv X pins σ H s) (hn:H D=none) (h0:D∈X.ex∨X.s₀.heap.objs.size≤D) (hL:D≠X.env.locals) (hc:∀x c,X.env.cells.lookup x=some c→c≠D) (hp:∀p∈X.pn++pins,p.1≠D)
  (new:ObjOk X.prog X.w (upd H D o) s.heap D o):Inv X pins σ (upd H D o) s:=by
 have ne:∀b u,H b=some u→b≠D:=fun b u e=>yt e hn
 have q := I.step (g':=s.gens) (t':=s.toks) (d':=s.drawn) (ch:=[D]) (h':=s.heap) (H':=upd H D o)
  (fun b hb => by have e:b=D:=by simpa using hb
                  subst e;exact⟨h0,hL,hc,hp⟩)
  (fun b o' _ _ _ e _=>e) (fun b o' _ _ _ e _=>⟨o'.slots,e⟩) (fun b o' hb _ n=>by rw[zP (fun z=>hb (by simp[z]))];exact n) (fun b o' _ e=>⟨o',e⟩)
  (fun b xs e=>by rw[zP (ne b _ e)];exact e) (fun b o' u e=>by rw[zP (ne b _ e)];exact e) (fun b ps e=>⟨#[],by rw[zP (ne b _ e),e];simp⟩) (fun m hm=>hm)
  (fun b u e=>by
   by_cases hb:b=D
   ·subst hb;rw[zX] at e;cases e;exact new
   ·rw[zP hb] at e
    exact(I.hok b u e).stay (fun c v _ q=>q) (fun c q=>by rw[zP (ne c _ q)];exact q) fun c xs q=>by rw[zP (ne c _ q)];exact q) I.bare
 exact q
theorem CompOk.cells (ok:CompOk X scope caps)(I:Inv X pins σ H s):∀y∈scope.names,y.2=.free→∃c,X.env.cells.lookup y.1=some c:=fun y hy e=>I.ok.has y.1 (ok.free y hy e)
theorem Inv.block {h₁:Heap}{D C:Addr}{fp:List Addr}{m:Str→Option Value}{oD:Obj}{t:Nat}(ok:CompOk X scope caps)(I:Inv X pins σ H s)(hf:∀b∈fp,FpOk X pins H b)(hfo:∀b∈fp,∃o,s.heap.get? b=some o∧∀v,o.data≠.cell v)
  (hD:D=s.heap.objs.size) (hC:s.heap.objs.size≤C) (hDC:D≠C) (k:∀b u,s.heap.get? b=some u→h₁.get? b=some u) (hn:h₁.Ns C m) (hoD:h₁.get? D=some oD) (hdD:∀v,oD.data≠.cell v) (cok:CellsOk h₁ (C+1) (ownC scope C)) :
  Inv (cxC X pins scope own caps C fp s H) [(D,oD)] (capS own caps σ) H {s with heap:=h₁,toks:=t}:=by
 have hcl:=ok.cells I
 have lk:∀x c,(closOf scope X.env).lookup x=some c→X.env.cells.lookup x=some c∧(x,NameKind.free)∈scope.names:=fun x c e=>closOf_mem hcl (x,c) (PySem.mem_of_lookup e)
 have lA:∀x c,(allC scope X.env C).lookup x=some c→(C<c∧h₁.IsCell c none∧(x,c)∈ownC scope C)∨(closOf scope X.env).lookup x=some c:=fun x c e=>by
  rcases lookup_app e with e|⟨_,e⟩
  ·have m:=PySem.mem_of_lookup e
   exact .inl ⟨(cok.empty x c m).2,(cok.empty x c m).1,m⟩
  ·exact .inr e
 have lkC:∀x c,X.env.cells.lookup x=some c→c<C:=fun x c e=>by
  obtain⟨v,o,ho,_⟩:=I.cell x c e
  exact Nat.lt_of_lt_of_le (Heap.lt_size ho) hC
 have nst:∀b,b≠X.env.locals→b∉X.fs→b∉frs X.stack:=fun b h1 h2 hb=>by
  rcases List.mem_cons.mp (I.stkSub b hb) with e|e
  ·exact h1 e
  ·exact h2 e
 have kinds:∀x,((relabel scope X.env).names.lookup x=some .cell∨(relabel scope X.env).names.lookup x=some .free)→(x,NameKind.free)∈scope.names∨scope.names.lookup x=some .cell:=fun x hx=>by
  rw[relabel_lookup] at hx
  cases e:scope.names.lookup x with
  | none=>rw[e] at hx;rcases hx with hx|hx <;>cases hx
  | some kd =>
   have hm:=PySem.mem_of_lookup e
   cases kd with
   | free=>exact .inl hm
   | cell=>exact .inr rfl
   | _=>rw[e] at hx;rcases hx with hx|hx <;>simp at hx
 refine⟨⟨I.ok.mod,ok.kind,I.ok.glob,I.ok.blt,hC,?_,?_,?_,I.ok.hd,I.ok.frames,.inl rfl,?_,I.bs,Nat.le_trans I.ok.bsz I.sz,?_,?_,I.stack,I.stkFree⟩,rfl,I.bare,Un.kept k,⟨m,hn,?_⟩,?_,I.hok.fresh hC,?_,?_,I.hok.kept k,?_⟩
 ·intro x y c h1 h2
  rcases lA x c h1 with⟨l1,_,m1⟩|h1 <;>rcases lA y c h2 with⟨l2,_,m2⟩|h2
  ·exact name_of_addr cok.apart m1 m2
  ·exact absurd (lkC y c (lk y c h2).1) (Nat.lt_asymm l1)
  ·exact absurd (lkC x c (lk x c h1).1) (Nat.lt_asymm l2)
  ·exact I.ok.inj x y c (lk x c h1).1 (lk y c h2).1
 ·intro x hx
  show ∃c,(allC scope X.env C).lookup x=some c
  cases e:(ownC scope C).lookup x with
  | some c=>exact⟨c,lookup_l e⟩
  | none =>
   rcases kinds x hx with h|h
   ·obtain⟨c,h⟩:=closOf_has (env:=X.env) h
    exact⟨c,lookup_r e h⟩
   ·obtain⟨c,h⟩:=cell_has (n:=C+1) h
    unfold ownC at e
    rw[h] at e;cases e
 ·intro x c hx e
  have hx:(scope.names.lookup x == some .cell)=true:=hx
  obtain⟨c',h⟩:=cell_has (sc:=scope) (n:=C+1) (by simpa using hx)
  have e':=lookup_l (r:=closOf scope X.env) h
  have e2:(allC scope X.env C).lookup x=some c:=e
  unfold allC ownC at e2
  rw[e'] at e2
  cases e2
  exact Nat.le_trans hC (Nat.le_trans (Nat.le_succ C) (cok.empty x _ (PySem.mem_of_lookup h)).2)
 ·intro b hb
  obtain⟨o,ho,_⟩:=hfo b hb
  refine⟨Nat.ne_of_lt (Nat.lt_of_lt_of_le (Heap.lt_size ho) hC),fun x c e=>?_⟩
  rcases lA x c e with⟨l,_,_⟩|e
  ·exact Nat.ne_of_gt (Nat.lt_trans (Nat.lt_of_lt_of_le (Heap.lt_size ho) hC) l)
  ·exact(hf b hb).2.2.2.2.1 x c (lk x c e).1
 ·intro b o e hb
  rcases(hf b hb).2.2.2.1 with z|z
  ·exact I.ok.noex b o e z
  ·exact absurd (Nat.lt_of_lt_of_le (Heap.lt_size e) (Nat.le_trans I.ok.bsz z)) (Nat.lt_irrefl _)
 ·exact fun b hb=>nst b (hf b hb).2.1 (hf b hb).2.2.1
 ·intro i x v h1 h2 h3
  have h1':(own++caps.map fun i=>X.N.getD i Str.empty)[i]? = some x:=h1
  unfold capS at h2
  have hi:own.length≤i:=by
   apply Classical.byContradiction
   intro hlt
   rw[List.getElem?_append_left (by simpa using hlt),List.getElem?_map] at h2
   cases e:own[i]? with
   | none=>rw[e] at h2;cases h2
   | some y=>rw[e] at h2;cases h2
  rw[List.getElem?_append_right (by simpa using hi),List.getElem?_map,List.length_map] at h2
  rw[List.getElem?_append_right hi,List.getElem?_map] at h1'
  cases e:caps[i - own.length]? with
  | none=>rw[e] at h2;cases h2
  | some j =>
   rw[e] at h2 h1'
   have hx:X.N.getD j Str.empty=x:=Option.some.inj h1'
   have hv:(σ[j]?).getD none=some v:=Option.some.inj h2
   obtain⟨y,hy,hfr⟩:=ok.caps j (List.mem_of_getElem? e)
   have exy:x=y:=by rw[← hx,List.getD_eq_getElem?_getD,hy];rfl
   subst exy
   have hs:σ[j]? = some (some v):=by
    cases q:σ[j]? with
    | none=>rw[q] at hv;cases hv
    | some z=>rw[q] at hv;exact congrArg some hv
   have hfm:=PySem.mem_of_lookup hfr
   have hkd:=ok.free _ hfm rfl
   obtain⟨m',hn',hl⟩:=I.loc
   obtain⟨u,r,l⟩:=hl j x v hy hs (by rcases hkd with z|z;exact .inr (.inl z);exact .inr (.inr z))
   refine⟨u,r,.inr ⟨?_,?_⟩⟩
   ·show(relabel scope X.env).names.lookup x=some .cell∨(relabel scope X.env).names.lookup x=some .free
    rw[relabel_lookup,hfr]
    simp only[Option.map_some]
    split
    ·exact .inl rfl
    ·exact .inr rfl
   ·rcases l with⟨hk,_⟩|⟨_,c,hc,o,ho,hd⟩
    ·rcases hkd with z|z <;>(rw[hk] at z;cases z)
    ·obtain ⟨c',hc'⟩:=closOf_has (env:=X.env) hfm
     have e1:=(lk x c' hc').1
     rw[hc] at e1
     cases e1
     refine⟨c,lookup_r ?_ hc',o,k _ _ ho,hd⟩
     cases e3:(ownC scope C).lookup x with
     | none=>rfl
     | some c3 =>
      have h3:=ok.ncell _ (cellsFrom_mem _ _ _ _ (PySem.mem_of_lookup e3)) rfl
      rw[hfr] at h3;cases h3
 ·intro x c e
  rcases lA x c e with⟨_,h,_⟩|e
  ·exact⟨_,h⟩
  ·obtain⟨v,o,ho,hd⟩:=I.cell x c (lk x c e).1
   exact⟨v,o,k _ _ ho,hd⟩
 ·intro x c e
  rcases lA x c e with⟨l,_,_⟩|e
  ·exact I.hok.fresh (Nat.le_trans hC (Nat.le_of_lt l))
  ·exact I.freeC x c (lk x c e).1
 ·intro p hp
  rcases List.mem_append.mp hp with hp|hp
  ·obtain⟨a1,a2,a3,a4,a5⟩:=I.pin p hp
   exact⟨k _ _ a1,a2,Nat.ne_of_lt (Nat.lt_of_lt_of_le (Heap.lt_size a1) hC),nst _ a3 a4,a5⟩
  ·have e:p=(D,oD):=by simpa using hp
   subst e
   refine⟨hoD,I.hok.fresh (Nat.le_of_eq hD.symm),hDC,?_,hdD⟩
   refine nst D ?_ (I.nofs (Nat.le_of_eq hD.symm))
   exact Nat.ne_of_gt (by rw[hD];exact I.lt)
 ·show(capS own caps σ).length=(capN X own caps).length
  simp[capS,capN]
end
end L2
namespace L2
open PySem PySem.Spec PyProof.Rows
section
variable {prog:Program}{w:World}{A:Around}{R:Result→Shared→Prop}{s:Shared}
theorem compLoop_any {elt target iter:Expr}{ifs:List Expr}{scope:Scope}{pos:Pos}{it acc:Value}{env:Env}(I:Nat→Shared→Prop)
  (turn : ∀n s,I n s→wpAny (model prog w) A (pyNext it) (fun r s₁=>match r with
   | none=>R (.ok .next) s₁
   | some v=>wpAny (model prog w) A (letOwnedTupleGo target it v) (fun _ s₁'=>wpAny (model prog w) A (assign target env v) (fun _ s₂ =>
     wpAny (model prog w) A (forIn ifs true fun c r=>if r=true then do let ok ← isTrue c env (eval c env);pure (ForInStep.yield ok) else pure (ForInStep.yield r)) (fun ok s₃ =>
      if ok=true then wpAny (model prog w) A (eval elt env) (fun x s₄ =>
       wpAny (model prog w) A (call (.builtin "list.append") [acc,x]) (fun _ s₅=>∃m,m<n∧I m s₅) (fun _ _=>False) s₄) (fun _ _=>False) s₃
      else ∃m,m<n∧I m s₃) (fun _ _=>False) s₂) (fun _ _=>False) s₁') (fun _ _=>False) s₁) (fun _ _=>False) s)
  (n:Nat) (h:I n s) :
  codeAny (model prog w) A (.compLoop (.ListComp elt [⟨target,iter,ifs,0⟩] scope pos) 0 it acc env) R s:=by
 refine codeAny_loop rfl I (fun n s hI=>?_) n h
 show wpAny _ A ((compTurn (.ListComp elt [⟨target,iter,ifs,0⟩] scope pos) 0 it acc env).onRaise (fun x=>do noteFrame x env;theTreesLotGoes x)) _ _ s
 refine wpAny_noted ?_
 rw[compTurn_list]
 refine wpAny_bind (wpAny_standAt (wpAny_bind (wpAny_mono (turn n s hI) (fun r s₁ h₁=>?_) fun _ _ h'=>h'.elim)))
 cases r with
 | none=>exact wpAny_pure h₁
 | some v =>
  refine wpAny_bind (wpAny_mono h₁ (fun _ s₁' h₁'=>?_) fun _ _ h'=>h'.elim)
  refine wpAny_bind (wpAny_mono h₁' (fun _ s₂ h₂=>wpAny_bind (wpAny_mono h₂ (fun ok s₃ h₃=>?_) fun _ _ h'=>h'.elim)) fun _ _ h'=>h'.elim)
  cases ok with
  | false=>exact wpAny_pure ⟨rfl,h₃⟩
  | true =>
   exact wpAny_bind (wpAny_bind (wpAny_mono h₃ (fun x s₄ h₄=>wpAny_bind (wpAny_mono h₄ (fun _ s₅ h₅=>wpAny_pure (wpAny_pure ⟨rfl,h₅⟩)) fun _ _ h'=>h'.elim)) fun _ _ h'=>h'.elim))
end
def PTs (X:Cx)(ifs:List Expr)(t:TT):Prop :=
 ∀ (pins:List (Addr×Obj)) (s:Shared) (σ:St) (H:Hp) (Q:Bool→Hp→Prop),Inv X pins σ H s→t σ H Q →
  wpAny (model X.prog X.w) X.A (forIn ifs true fun c r=>if r=true then do let ok ← isTrue c X.env (eval c X.env);pure (ForInStep.yield ok) else pure (ForInStep.yield r)) (TP X pins σ Q) X.xe s
def Kps (σ σ':St):Prop:=σ'.length=σ.length∧∀(i:Nat) (v:V),σ[i]? = some (some v)→σ'[i]? = some (some v)
def tTurns (g:TG)(tt:TT)(te:TE)(σ0:St)(F:List V→Hp→Prop)(J:It)(H1:Hp):Prop :=
 ∃ W : Nat→Nat→List V→Hp→Prop,(∃m,W 0 m [] H1)∧∀i m ys H,W i m ys H→ys.length≤sizeLine ∧
  ((J.stop i H∧F ys H)∨(J.go i H∧ys.length<sizeLine∧∃N:List V→Hp→Prop,(∀ys' H',N ys' H'→∃m',m'<m∧W (i+1) m' ys' H') ∧
    ∀x H',J.yld i H x H'→g x σ0 H' fun σ2 H2=>Kps σ0 σ2∧tt σ2 H2 fun b H3=>if b=true then te σ2 H3 fun y H4=>N (ys++[y]) H4 else N ys H3))
def tComp (wi:TI)(g:TG)(tt:TT)(te:TE)(own:List Str)(caps:List Nat):TE:=fun σ H Q=>wi σ H fun J H1=>tTurns g tt te (capS own caps σ) (fun ys H'=>∀D,H' D=none→Q (.ref D) (upd H' D (.lst ys))) J H1
section
variable {X:Cx}{pins:List (Addr×Obj)}{σ:St}{H:Hp}{s:Shared}{scope:Scope}{own:List Str}{caps:List Nat}{elt tg iter:Expr}{ifs:List Expr}{wi:TI}{g:TG}{tt:TT}{te:TE}{pos:Pos}
structure CompIn (X:Cx)(scope:Scope)(own:List Str)(caps:List Nat)(tg:Expr)(ifs:List Expr)(elt:Expr)(g:TG)(tt:TT)(te:TE):Prop where
 tgt:∀pins C ex s H,PG (cxC X pins scope own caps C ex s H) tg g
 tst:∀pins C ex s H,PTs (cxC X pins scope own caps C ex s H) ifs tt
 elm:∀pins C ex s H,PE (cxC X pins scope own caps C ex s H) elt te
theorem newEnv_comp {M:Model}{A:Around}{E:Value→Shared→Prop}{s:Shared}{scope:Scope}{g:Addr}{cl:List (Str×Addr)}{q:Str}{env:Env}{Q:Env→Shared→Prop}
  (h:∀h',h'.Ns s.heap.objs.size (fun _=>none)→(∀b o,s.heap.get? b=some o→h'.get? b=some o)→CellsOk h' (s.heap.objs.size+1) (ownC scope s.heap.objs.size) →
   Q (newEnv scope s.heap.objs.size g (ownC scope s.heap.objs.size++cl) q none .none (some env) builtinsNs) {s with heap:=h'}) :
  wpAny M A (newFunctionEnv scope g cl [] q none .none (some env)) Q E s:=by
 simp only[newFunctionEnv,Option.isSome_some,if_true]
 refine wpAny_bind (wpAny_alloc ?_)
 refine wpAny_bind (wpAny_layCells _ (fun name kind cells=>by cases hkc:kind == NameKind.cell <;>simp[hkc]) _ _ _ _ ?_)
 have ok:=cellsFrom_ok scope.names (s.heap.push {cls:=.type "dict", data:=.dict #[]}) (s.heap.objs.size+1) [] ⟨fun _ _ hm=>(nomatch hm),List.Pairwise.nil⟩ (by rw[Heap.size_push];exact Nat.le_refl _)
 rw[Heap.size_push] at ok
 rw[show({s with heap:=s.heap.push {cls:=.type "dict", data:=.dict #[]} }:Shared).heap.objs.size=s.heap.objs.size+1 from Heap.size_push ..]
 rw[cellsFrom_acc,List.forIn_nil]
 refine wpAny_bind (wpAny_pure (wpAny_pure ?_))
 exact h _ ((Heap.Ns.new s.heap (.type "dict")).keeps (pushCells_keeps _ _)) (fun b o e=>pushCells_keeps _ _ b o (Heap.get?_push_of_some _ e)) ok
theorem comp_core {use:Option (Value→Sem Unit)}{Qv:Value→Shared→Prop}{F:List V→Hp→Prop}(ok:CompOk X scope caps)(hc:X.calm=true)(hi:PI X tg iter wi)(CI:CompIn X scope own caps tg ifs elt g tt te)(I:Inv X pins σ H s)
  (h:wi σ H fun J H1=>tTurns g tt te (capS own caps σ) F J H1)
  (fin:∀(D C:Addr) (ys:List V) (H':Hp) (s1:Shared) (m:Str→Option Value),Inv X pins σ (upd H' D (.lst ys)) s1→H' D=none→F ys H'→s1.heap.Ns C m→H' C=none→C≠D→C≠X.env.locals→C∉X.fs→X.s₀.heap.objs.size≤C →
   (∀x c,X.env.cells.lookup x=some c→c≠C)→(∀p∈X.pn++pins,p.1≠C)→compPost (model X.prog X.w) X.A X.xe use Qv (.ref D) C (.ok .next) s1)
  (hs:∀x,foldedSetIterable iter X.env x=pure x:=by intro _;rfl) :
  wpAny (model X.prog X.w) X.A (comprehension (.ListComp elt [⟨tg,iter,ifs,0⟩] scope pos) scope X.env (firstIterPos [⟨tg,iter,ifs,0⟩] pos) (newList []) false (eval iter X.env) use) Qv X.xe s:=by
 refine wpAny_comprehension_free rfl hs (closureFor_eq (ok.cells I)) ok.kind ok.locs (thn (hi pins s σ H _ I h) fun v s1 h1=>thn h1 fun itv s2 h2=>?_)
 obtain⟨it,fp,tn,J,H2,e,I2,T,st2,f2,W,⟨m0,w0⟩,turn⟩:=h2
 subst e
 refine wpAny_newObj_type (newEnv_comp (fun h₁ hns₁ hsb₁ cok=>?_))
 dsimp only at hns₁ hsb₁ cok ⊢
 generalize hH2:s2.heap.push {cls:=.type "list", dict:=none,data:=.seq ([]:List Value).toArray}=HH at hns₁ hsb₁ cok ⊢
 have hCs:HH.objs.size=s2.heap.objs.size+1:=by rw[← hH2,Heap.size_push]
 have hDC:s2.heap.objs.size≠HH.objs.size:=by rw[hCs];exact Nat.ne_of_lt (Nat.lt_succ_self _)
 have hC:s2.heap.objs.size≤HH.objs.size:=by rw[hCs];exact Nat.le_succ _
 have old:∀b o,s2.heap.get? b=some o→h₁.get? b=some o:=fun b o e =>
  hsb₁ b o (hH2▸Heap.get?_push_of_some _ e)
 have hoD:h₁.get? s2.heap.objs.size=some {cls:=.type "list", data:=.seq ([]:List Value).toArray}:=hsb₁ _ _ (hH2▸Heap.get?_push_size _ rfl)
 have fo:∀b∈fp,∃o,s2.heap.get? b=some o∧∀v,o.data≠.cell v:=T.obj _ _ st2
 have I4:=Inv.block (own:=own) (t:=s2.toks) ok I2 f2 fo rfl hC hDC old hns₁ hoD (fun v z=>by cases z) cok
 have st4:tn 0 h₁:=T.keep _ _ _ st2 fun b _ o e=>old b o e
 have hDfp:∀b∈fp,b≠s2.heap.objs.size:=fun b hb=>by obtain⟨o,ho,_⟩:=fo b hb;exact Nat.ne_of_lt (Heap.lt_size ho)
 have hCfp:∀b∈fp,b≠HH.objs.size:=fun b hb=>by obtain⟨o,ho,_⟩:=fo b hb;exact Nat.ne_of_lt (Nat.lt_of_lt_of_le (Heap.lt_size ho) hC)
 have pnD:∀p∈X.pn++pins,p.1≠s2.heap.objs.size:=fun p hp=>Nat.ne_of_lt (Heap.lt_size (I2.pin p hp).1)
 have pnC:∀p∈X.pn++pins,p.1≠HH.objs.size:=fun p hp=>Nat.ne_of_lt (Nat.lt_of_lt_of_le (Heap.lt_size (I2.pin p hp).1) hC)
 have clX:∀x c,X.env.cells.lookup x=some c→c<s2.heap.objs.size:=fun x c e=>by obtain⟨v,o,ho,_⟩:=I2.cell x c e;exact Heap.lt_size ho
 have cl:∀x c,(allC scope X.env HH.objs.size).lookup x=some c→X.env.cells.lookup x=some c∨HH.objs.size<c:=fun x c e=>by
  rcases lookup_app e with e|⟨_,e⟩
  ·exact .inr (cok.empty x c (PySem.mem_of_lookup e)).2
  ·exact .inl (closOf_mem (ok.cells I) (x,c) (PySem.mem_of_lookup e)).1
 have YA:(cxC X pins scope own caps HH.objs.size fp s2 H2).env=compEnvC scope (allC scope X.env HH.objs.size) HH.objs.size X.env:=rfl
 have stat:∀{H':Hp}{oD:Obj},(∀b∈fp,H' b=none)→∀b∈fp,FpOk (cxC X pins scope own caps HH.objs.size fp s2 H2) [(s2.heap.objs.size,oD)] H' b:=fun {H' oD} hn b hb=>by
  refine⟨hn b hb,hCfp b hb,?_,.inl hb,fun x c e=>?_,fun p hp=>?_⟩
  ·intro z
   rcases List.mem_cons.mp (I2.stkSub b z) with e|e
   ·exact(f2 b hb).2.1 e
   ·exact(f2 b hb).2.2.1 e
  ·rcases cl x c e with e|e
   ·exact(f2 b hb).2.2.2.2.1 x c e
   ·obtain⟨o,ho,_⟩:=fo b hb
    exact Nat.ne_of_gt (Nat.lt_trans (Nat.lt_of_lt_of_le (Heap.lt_size ho) hC) e)
  ·rcases List.mem_append.mp hp with hp|hp
   ·exact(f2 b hb).2.2.2.2.2 p hp
   ·have e:p=(s2.heap.objs.size,oD):=by simpa using hp
    subst e
    exact(hDfp b hb).symm
 have loop:∀s₃:Shared,s₃={s2 with heap:=h₁} →
   codeAny (model X.prog X.w) X.A (.compLoop (.ListComp elt [⟨tg,iter,ifs,0⟩] scope pos) 0 (.ref it) (.ref s2.heap.objs.size) (compEnvC scope (allC scope X.env HH.objs.size) HH.objs.size X.env)) (compPost (model X.prog X.w) X.A X.xe use Qv (.ref s2.heap.objs.size) HH.objs.size) s₃:=by
  rintro s₃ rfl
  refine compLoop_any (fun n s'=>∃i ys its c H',Inv (cxC X pins scope own caps HH.objs.size fp s2 H2) [(s2.heap.objs.size,{cls:=.type "list", data:=.seq its.toArray c})] (capS own caps σ) H' s'∧Vals ys its∧tn i s'.heap∧(∀b∈fp,H' b=none)∧W i n ys H') ?_ m0
   ⟨0,[],[],0,H2,I4,.nil,st4,fun b hb=>(f2 b hb).1,w0⟩
  rintro n s' ⟨i,ys,its,c,H',I',rv,st',fr',w'⟩
  obtain⟨hz,hcase⟩:=turn i n ys H' w'
  rcases hcase with⟨stop,qF⟩|⟨go,hlt,N,hN,step⟩
  ·refine thn (T.done (cxC X pins scope own caps HH.objs.size fp s2 H2) rfl rfl rfl hc i _ s' _ H' _ I' (stat fr') st' stop) fun r s1 hq28=>?_
   obtain⟨hr,I1⟩:=hq28
   subst hr
   obtain⟨m1,hn1,_⟩:=I1.loc
   obtain⟨pD,nD,_⟩:=I1.pin _ (List.mem_append_right _ (List.mem_singleton.mpr rfl))
   have J1:Inv X pins σ H' s1:=I2.call' I1.os I1.base I1.hok I1.bare fun b hb=>⟨(f2 b hb).2.2.2.1,(f2 b hb).2.1,(f2 b hb).2.2.2.2.1,(f2 b hb).2.2.2.2.2⟩
   have J2:Inv X pins σ (upd H' s2.heap.objs.size (.lst ys)) s1:=J1.track nD (.inr I2.sz) (Nat.ne_of_gt I2.lt) (fun x c e=>Nat.ne_of_lt (clX x c e)) pnD ⟨hz,its,c,rv,pD⟩
   exact fin _ _ ys H' s1 m1 J2 nD qF hn1 I1.free hDC.symm (Nat.ne_of_gt (Nat.lt_of_lt_of_le I2.lt hC)) (I2.nofs hC) (Nat.le_trans I2.sz hC) (fun x c e=>Nat.ne_of_lt (Nat.lt_of_lt_of_le (clX x c e) hC)) pnC
  ·refine thn (T.item (cxC X pins scope own caps HH.objs.size fp s2 H2) rfl rfl rfl hc i _ s' _ H' _ I' (stat fr') st' go) fun r s1 hq29=>?_
   obtain⟨u,hr,h1⟩:=hq29
   subst hr
   refine thn h1 fun _ s2' hq30=>?_
   obtain⟨x,H5,I5,r5,y5,st5,fr5⟩:=hq30
   have I5':=I5.pinned (stat fr5) (T.obj _ _ st5)
   refine thn (CI.tgt pins _ _ _ _ _ s2' _ H5 x u _ I5' r5 (step x H5 y5)) fun _ s6 hq31=>?_
   obtain⟨σ6,H6,I6,kp6,q6⟩:=hq31
   refine thn (CI.tst pins _ _ _ _ _ s6 σ6 H6 _ I6 q6) fun b s7 hq32=>?_
   obtain⟨H7,I7,q7⟩:=hq32
   have again:∀{H8:Hp}{s8:Shared}{ys':List V}{its':List Value}{c':Nat},Inv (cxC X pins scope own caps HH.objs.size fp s2 H2) ([(s2.heap.objs.size,{cls:=.type "list", data:=.seq its'.toArray c'})]++pinsAt fp s2'.heap) σ6 H8 s8→Vals ys' its'→N ys' H8 →
     ∃m,m<n∧∃i ys its c H',Inv (cxC X pins scope own caps HH.objs.size fp s2 H2) [(s2.heap.objs.size,{cls:=.type "list", data:=.seq its.toArray c})] (capS own caps σ) H' s8∧Vals ys its∧tn i s8.heap∧(∀b∈fp,H' b=none)∧W i m ys H':=by
    intro H8 s8 ys' its' c' I8 rv' n8
    obtain⟨m',hm,w8⟩:=hN ys' H8 n8
    refine⟨m',hm,i+1,ys',its',c',H8,I8.unpinned.weak kp6.1.symm kp6.2,rv',T.keep _ _ _ st5 fun b hb o e=>(I8.pin (b,o) (List.mem_append_right _ (List.mem_append_right _ (mem_pinsAt hb e)))).1,fun b hb=>?_,w8⟩
    obtain⟨o,e,d⟩:=T.obj _ _ st5 b hb
    exact(I8.pin (b,o) (List.mem_append_right _ (List.mem_append_right _ (mem_pinsAt hb e)))).2.1
   cases b with
   | false=>exact again I7 rv q7
   | true =>
    refine thn (CI.elm pins _ _ _ _ _ s7 σ6 H7 _ I7 q7) fun yv s8 hq33=>?_
    obtain⟨y,H8,I8,r8,q8⟩:=hq33
    obtain⟨pD,nD,ncD,nfD,_⟩:=I8.pin (s2.heap.objs.size,{cls:=.type "list", data:=.seq its.toArray c}) (List.mem_append_right _ (List.mem_append_left _ (List.mem_singleton.mpr rfl)))
    have hlen:=rv.length
    refine call_meets PySem.F.slot_list_append ⟨_,pD,rfl⟩ PySem.F.entry_list_append (PySem.F.args_list_append_2 _ _) (PySem.list_append s2.heap.objs.size its.toArray c yv (by rw[List.size_toArray];omega)) ⟨pD,?_⟩
    have ef:its.toArray.push yv=(its++[yv]).toArray:=by simp
    obtain⟨c',q⟩:∃c',(s8.heap.update s2.heap.objs.size (Obj.mapSeq fun xs=>xs.push yv)).get? s2.heap.objs.size=some {cls:=.type "list", data:=.seq (its++[yv]).toArray c'}:=⟨_,by rw[← ef];exact PySem.IsL.update pD (fun xs=>xs.push yv)⟩
    have keepB:∀b o,b≠s2.heap.objs.size→s8.heap.get? b=some o→(s8.heap.update s2.heap.objs.size (Obj.mapSeq fun xs=>xs.push yv)).get? b=some o:=fun b o hb e=>(Heap.get?_update_other s8.heap _ (Ne.symm hb)).trans e
    have I9:Inv (cxC X pins scope own caps HH.objs.size fp s2 H2) (pinsAt fp s2'.heap) σ6 H8 s8:=I8.pins_of fun p hp=>I8.pin p (List.mem_append_right _ (List.mem_append_right _ hp))
    have I10:Inv (cxC X pins scope own caps HH.objs.size fp s2 H2) (pinsAt fp s2'.heap) σ6 H8 {s8 with heap:=s8.heap.update s2.heap.objs.size (Obj.mapSeq fun xs=>xs.push yv)}:=by
     refine I9.turned (t':=s8.toks) (it:=s2.heap.objs.size) keepB nD ncD (.inr (Nat.le_refl _)) (fun x c e=>(cl x c e).elim (fun e=>Nat.ne_of_lt (clX x c e)) fun e=>Nat.ne_of_gt (Nat.lt_of_le_of_lt hC e)) fun p hp=>?_
     rcases List.mem_append.mp hp with hp|hp
     ·exact pnD p hp
     ·exact hDfp _ (of_pinsAt hp).1
    refine again (its':=its++[yv]) (c':=c') (I10.pins_of fun p hp=>?_) (rv.append (.cons r8 .nil)) q8
    rcases List.mem_append.mp hp with hp|hp
    ·have e:=List.mem_singleton.mp hp
     subst e
     exact⟨q,nD,ncD,nfD,fun v z=>by cases z⟩
    ·exact I10.pin p (List.mem_append_right _ hp)
 exact codeAny_compStart_list (loop _ rfl) (T.self _ 0 _ _ _ st4 (loop _ rfl))
theorem pe_comp (ok:CompOk X scope caps)(hc:X.calm=true)(hi:PI X tg iter wi)(CI:CompIn X scope own caps tg ifs elt g tt te)(hs:∀x,foldedSetIterable iter X.env x=pure x:=by intro _;rfl) :
  PE X (.ListComp elt [⟨tg,iter,ifs,0⟩] scope pos) (tComp wi g tt te own caps):=by
 intro pins s σ H Q I h
 rw[eval_ListComp]
 refine comp_core (use:=none) ok hc hi CI I h (fun D C ys H' s1 m I1 nD q hn nC hCD hCL hCf hC0 hCc hCp=>?_) hs
 refine⟨m,hn,fun h' hsb=>?_⟩
 have I2:Inv X pins σ (upd H' D (.lst ys)) {s1 with heap:=h'}:=I1.turned (t':=s1.toks) (it:=C) (fun b o hb e=>hsb.extBut b o hb e) (by rw[zP hCD];exact nC) hCL (.inr hC0) hCc hCp
 exact⟨.ref D,_,I2,rfl,q D nD⟩
def sComp (j:Nat)(wi:TI)(g:TG)(tt:TT)(te:TE)(own:List Str)(caps:List Nat):TS:=fun E σ H=>wi σ H fun J H1=>tTurns g tt te (capS own caps σ) (fun ys H'=>∀D,H' D=none→E.nx (σ.set j (some (.ref D))) (upd H' D (.lst ys))) J H1
theorem ps_comp {j:Nat}{y:Str}{py spos:Pos}(hN:X.N.Nodup)(hj:X.N[j]? = some y)(hy:X.env.scope.names.lookup y=some .local)(ok:CompOk X scope caps)(hc:X.calm=true)(hi:PI X tg iter wi)(CI:CompIn X scope own caps tg ifs elt g tt te)
  (hsw:swapsWith (.ListComp elt [⟨tg,iter,ifs,0⟩] scope pos) (some (.Name y py)) spos.line X.env=pure true) (hs:∀x,foldedSetIterable iter X.env x=pure x:=by intro _;rfl) :
  PS X (.Assign [.Name y py] (.ListComp elt [⟨tg,iter,ifs,0⟩] scope pos) spos) (sComp j wi g tt te own caps):=by
 intro pins s σ H E I h
 rw[exec_Assign_Name_used _ _ _ _ hsw]
 refine wpAny_bind (wpAny_standAt (wpAny_bind ?_))
 show wpAny _ X.A (do let _ ← comprehension (.ListComp elt [⟨tg,iter,ifs,0⟩] scope pos) scope X.env _ (newList []) false (eval iter X.env) (some (assign (.Name y py) X.env))) _ _ s
 refine wpAny_bind (wpAny_mono (comp_core (use:=some (assign (.Name y py) X.env)) (Qv:=fun _ s'=>SP X pins E .next s') ok hc hi CI I h (fun D C ys H' s1 m I1 nD q hn nC hCD hCL hCf hC0 hCc hCp=>?_) hs) (fun _ s' hq=>wpAny_pure (wpAny_pure hq)) fun _ _ e=>e)
 obtain⟨oC,es,ep,eC,dC,rC⟩:=id hn
 have I2:Inv X (pins++[(C,oC)]) σ (upd H' D (.lst ys)) s1:=I1.pins_of fun p hp=>by
  rcases List.mem_append.mp hp with hp|hp
  ·exact I1.pin p (List.mem_append_right _ hp)
  ·have e:=List.mem_singleton.mp hp
   subst e
   exact⟨eC,by rw[zP hCD];exact nC,hCL,hCf,fun v z=>by rw[dC] at z;cases z⟩
 show wpAny _ X.A (assign (.Name y py) X.env (.ref D)) _ _ s1
 refine wpAny_assign_Name (store_ok (v:=.ref D) I2 hN hj (.inl hy) rfl (fun s2 I3=>?_) (.inr hy))
 obtain⟨e3,n3,_⟩:=I3.pin (C,oC) (List.mem_append_right _ (List.mem_append_right _ (List.mem_singleton.mpr rfl)))
 have I4:Inv X pins (σ.set j (some (.ref D))) (upd H' D (.lst ys)) s2:=I3.pins_of fun p hp=>I3.pin p (List.mem_append_right _ (List.mem_append_left _ hp))
 refine⟨m,⟨oC,es,ep,e3,dC,rC⟩,fun h' hsb=>?_⟩
 have I5:Inv X pins (σ.set j (some (.ref D))) (upd H' D (.lst ys)) {s2 with heap:=h'}:=I4.turned (t':=s2.toks) (it:=C) (fun b o hb e=>hsb.extBut b o hb e) n3 hCL (.inr hC0) hCc hCp
 exact⟨_,_,I5,q D nD⟩
end
end L2
namespace L2
open PySem PySem.Spec PyProof.Rows
def T (l:List Nat):Str:=⟨l.toArray⟩
theorem T_cps (l:List Nat):(T l).cps.toList=l:=by simp[T]
theorem T_of (x:Str):T x.cps.toList=x:=by cases x;simp[T]
theorem T_len (l:List Nat):(T l).length=l.length:=by simp[T,Str.length]
theorem T_app (l m:List Nat):T l++T m=T (l++m):=by
 show Str.append (T l) (T m)=_
 simp[Str.append,T]
theorem T_inj {l m:List Nat}(h:T l=T m):l=m:=by
 have:=congrArg (fun x:Str=>x.cps.toList) h
 simpa [T] using this
theorem T_beq (l m:List Nat):(T l == T m)=(l == m):=by
 rw[Bool.eq_iff_iff]
 simp only[beq_iff_eq]
 exact⟨T_inj,congrArg T⟩
theorem T_ok {l:List Nat}(h:∀c∈l,c<0x110000)(hl:l.length≤1000000):TxtOk (T l):=by
 refine⟨?_,by rw[T_len];exact hl⟩
 show(T l).cps.all (· < 0x110000)=true
 simp only[T,List.all_toArray,List.all_eq_true,decide_eq_true_eq]
 exact h
theorem TxtOk.app {x y:Str}(hx:TxtOk x)(hy:TxtOk y)(hl:x.length+y.length≤1000000):TxtOk (x++y):=by
 obtain⟨a,_⟩:=hx
 obtain⟨b,_⟩:=hy
 refine⟨?_,?_⟩
 ·have a':x.cps.all (· < 0x110000)=true:=a
  have b':y.cps.all (· < 0x110000)=true:=b
  show(x.cps++y.cps).all (· < 0x110000)=true
  rw[Array.all_append,a',b'];rfl
 ·show(x.cps++y.cps).size≤1000000
  rw[Array.size_append];exact hl
theorem clip_nat (lo:Option Int)(n d:Nat)(hd:d≤n):(match lo with|none=>(d:Int)|some i=>max 0 (min (if i<0 then i+(n:Int) else i) (n:Int)))=((HT.sIx n d lo:Nat):Int):=by
 cases lo with
 | none=>rfl
 | some i =>
  show max 0 (min (if i<0 then i+(n:Int) else i) (n:Int))=(((if i<0 then(i+(n:Int)).toNat else min i.toNat n):Nat):Int)
  split <;>omega
theorem slice_T (x:Str)(lo hi:Option Int):Txt.slice x lo hi=T ((x.cps.toList.drop (HT.sIx x.length 0 lo)).take (HT.sIx x.length x.length hi - HT.sIx x.length 0 lo)):=by
 have ha:HT.sIx x.length 0 lo≤x.length:=HT.sIx_le _ _ (Nat.zero_le _) lo
 have hb:HT.sIx x.length x.length hi≤x.length:=HT.sIx_le _ _ (Nat.le_refl _) hi
 have e:Builtin.Str.strSliceIndices lo hi 1 x.length=Builtin.Str.strSliceIndices (some ((HT.sIx x.length 0 lo:Nat):Int)) (some ((HT.sIx x.length x.length hi:Nat):Int)) 1 x.length:=by
  have h1:=clip_nat lo x.length 0 (Nat.zero_le _)
  have h2:=clip_nat hi x.length x.length (Nat.le_refl _)
  generalize HT.sIx x.length 0 lo=a at *
  generalize HT.sIx x.length x.length hi=b at *
  have k1:max 0 (min (if (a:Int)<0 then(a:Int)+(x.length:Int) else(a:Int)) (x.length:Int))=(a:Int):=by split <;>omega
  have k2:max 0 (min (if (b:Int)<0 then(b:Int)+(x.length:Int) else(b:Int)) (x.length:Int))=(b:Int):=by split <;>omega
  unfold Builtin.Str.strSliceIndices
  simp only[show(1:Int) > 0 by decide,if_true,k1,k2]
  cases lo <;>cases hi <;>simp only at h1 h2 ⊢ <;>first|rw[h1,h2] | (rw[← h1,← h2];rfl)
 have e2:Txt.slice x lo hi=StrLaws.sliceText x (some ((HT.sIx x.length 0 lo:Nat):Int)) (some ((HT.sIx x.length x.length hi:Nat):Int)):=by
  unfold Txt.slice StrLaws.sliceText
  rw[e]
 rw[e2]
 by_cases hab:HT.sIx x.length 0 lo≤HT.sIx x.length x.length hi
 ·exact StrLaws.sliceText_nat x hab hb
 ·have hz:HT.sIx x.length x.length hi - HT.sIx x.length 0 lo=0:=by omega
  rw[hz,List.take_zero]
  generalize HT.sIx x.length 0 lo=a at *
  generalize HT.sIx x.length x.length hi=b at *
  have k1:max 0 (min (if (a:Int)<0 then(a:Int)+(x.length:Int) else(a:Int)) (x.length:Int))=(a:Int):=by split <;>omega
  have k2:max 0 (min (if (b:Int)<0 then(b:Int)+(x.length:Int) else(b:Int)) (x.length:Int))=(b:Int):=by split <;>omega
  have e3:Builtin.Str.strSliceIndices (some (a:Int)) (some (b:Int)) 1 x.length=[]:=by
   unfold Builtin.Str.strSliceIndices sliceRange
   simp only[show(1:Int) > 0 by decide,if_true,k1,k2]
   have:¬((b:Int) > (a:Int)):=by omega
   simp[this]
   try omega
  unfold StrLaws.sliceText
  rw[e3]
  simp only[List.length_nil,List.filterMap_nil]
  split
  ·rename_i h
   have hn:x.length=0:=by
    simp at h
    omega
   omega
  ·rfl
section
variable {X:Cx}{e:Expr}{te:TE}{pos p2:Pos}
def rSlS:V→Option Int→Option Int→Hp→VK→Prop:=fun x lo hi H Q=>∃z,x=.str z∧z.length≤sizeLine∧Q (.str (T ((z.cps.toList.drop (HT.sIx z.length 0 lo)).take (HT.sIx z.length z.length hi - HT.sIx z.length 0 lo)))) H
theorem part_of {v:Value}{o:Option Int}(p:IsPart v o):∃q:Option (Int×Tok),v=partValue q∧q.map (·.1)=o:=by
 cases p with
 | none=>exact⟨none,rfl,rfl⟩
 | int i t=>exact⟨some (i,t),rfl,rfl⟩
theorem sl_str:SlR X rSlS:=by
 intro pins s σ H x v vl vu lo hi sl Q I rx hs pl pu h
 obtain⟨z,rfl,hz,q⟩:=h
 obtain⟨t,rfl⟩:=rx
 obtain⟨l,rfl,rfl⟩:=part_of pl
 obtain⟨u,rfl,rfl⟩:=part_of pu
 refine⟨"str", _,PySem.F.slot_str_getitem.lookup,typeIs_str _ _ _,?_⟩
 refine wpAny_getItem_str_slice (l:=l) (u:=u) (st:=none) hs rfl ?_
 refine post_val_or_str (y:=z) ?_
 have e:=slice_T z (l.map (·.1)) (u.map (·.1))
 unfold Txt.slice at e
 refine⟨Nat.le_trans (Txt.slice_le z (l.map (·.1)) (u.map (·.1))) hz,fun t' k=>⟨.str _,H,I.tok _,⟨t',?_⟩,q⟩⟩
 exact congrArg (fun y=>Value.str y t') e
def Its (x:Str):It:=⟨fun i _=>i<x.cps.size,fun i H v H'=>H'=H∧∃c,x.cps.toList[i]? = some c∧v=.str (T [c]),fun i _=>x.cps.size≤i⟩
theorem turn_str {P:Program}{w:World}{K:PySem.W.Frag}{tg:Expr}{x:Str}{t:Tok}{ty:String}(it:Addr)(W:∀A':Around,A'.handled=none→Walks P w A' it [it] [it] x.cps.size (SignAt x) (fun i h=>h.IsStrIter it ty x t i))
  (hn:["enumerate", "zip", "dict_itemiterator", "dict_reverseitemiterator", "odict_iterator", "itertools.zip_longest", "itertools.pairwise"].contains ty=false)
  (hend:∀(A:Around) (i:Nat) (s:Shared) (Q:Option Value→Shared→Prop) (E:Value→Shared→Prop),A.handled=none→s.heap.IsStrIter it ty x t i→x.cps[i]? = none→(∀h',Heap.ExtBut it s.heap h'→Q none {s with heap:=h'})→wpAny (model P w) A (pyNext (.ref it)) Q E s)
  (hself:∀(A:Around) (i:Nat) (s:Shared) (Q:Value→Shared→Prop) (E:Value→Shared→Prop),s.heap.IsStrIter it ty x t i→Q (.ref it) s→wpAny (model P w) A (pyIter (.ref it)) Q E s) :
  Turn P w K tg (Its x) [it] it (fun i h=>h.IsStrIter it ty x t i) where
 mem:=by simp
 obj:=fun i h st b hb=>by
  have e:b=it:=by simpa using hb
  subst e
  obtain⟨o,e,c,d⟩:=st
  exact⟨o,e,fun v z=>by rw[d] at z;cases z⟩
 keep:=fun i h h' st k=>by obtain⟨o,e,r⟩:=st;exact⟨o,k it (by simp) o e,r⟩
 item:=by
  intro X hP hw hK hc i pins s σ H E I hf st hg
  subst hP hw hK
  obtain⟨f0,f1,f2,f3,f4,f5⟩:=hf it (by simp)
  refine(W X.A (I.ok.hd hc)).item i s _ _ hg st fun v h' tk hv st' kk=>?_
  obtain⟨c,u,hcc,rfl⟩:=hv
  have I1:Inv X pins σ H {s with heap:=h',toks:=tk}:=I.turned (fun b o hb e=>kk b o (by simpa using hb) e) f0 f1 f3 f4 f5
  obtain⟨o,e,c1,d1⟩:=id st'
  exact⟨_,rfl,go_of (s:={s with heap:=h',toks:=tk}) e c1 d1 hn ⟨.str (T [c]),H,I1,⟨u,rfl⟩,⟨rfl,c,by simpa using hcc,rfl⟩,st',fun b hb=>(hf b hb).1⟩⟩
 done:=by
  intro X hP hw hK hc i pins s σ H E I hf st hg
  subst hP hw hK
  obtain⟨f0,f1,f2,f3,f4,f5⟩:=hf it (by simp)
  have hge:x.cps.size≤i:=hg
  exact hend X.A i s _ _ (I.ok.hd hc) st (Array.getElem?_eq_none hge) fun h' eb=>⟨rfl,I.turned (t':=s.toks) (fun b o hb e=>eb b o hb e) f0 f1 f3 f4 f5⟩
 self:=fun A i s Q E st h=>hself A i s Q E st h
def iStr (tl:TE):TI:=fun σ H R=>tl σ H fun v H1=>∃x,v=.str x∧R (Its x) H1
theorem pi_str {tg l:Expr}{tl:TE}(hl:PE X l tl):PI X tg l (iStr tl):=by
 intro pins s σ H R I h
 refine thn (hl pins s σ H _ I h) fun v s1 hq34=>?_
 obtain⟨y,H1,I1,r1,q1⟩:=hq34
 obtain⟨x,e,q⟩:=q1
 subst e
 obtain⟨t,rfl⟩:=r1
 have fin:∀(ty:String) (T':Turn X.prog X.w X.K tg (Its x) [s1.heap.objs.size] s1.heap.objs.size (fun i h=>h.IsStrIter s1.heap.objs.size ty x t i)),
   PIE X pins σ tg R (.ref s1.heap.objs.size) {s1 with heap:=s1.heap.push {cls:=.type ty,data:=.fields #[.str x t,.int 0 0]} }:=fun ty T' =>
  ⟨s1.heap.objs.size,[s1.heap.objs.size],_,_,H1,rfl,I1.kept (t':=s1.toks) fun b o e=>Heap.get?_push_of_some _ e,T',⟨_,Heap.get?_push_size _ rfl,rfl,rfl⟩,fun b hb=>by
   have e:b=s1.heap.objs.size:=by simpa using hb
   subst e
   exact I1.fpOk (Nat.le_refl _) (I1.hok.fresh (Nat.le_refl _)),q⟩
 cases ha:x.cps.all (· < 128)
 ·exact wpAny_pyIter_wide ha (fin _ (turn_str _ (fun A' hA=>Walks.strWide hA _ x t) (by decide) (fun A i s Q E hh st hx hQ=>wpAny_pyNext_wide_end hh st hx hQ) fun A i s Q E st hq=>wpAny_pyIter_striter_wide st hq))
 ·exact wpAny_pyIter_ascii ha (fin _ (turn_str _ (fun A' hA=>Walks.strAscii hA _ x t) (by decide) (fun A i s Q E hh st hx hQ=>wpAny_pyNext_ascii_end hh st hx hQ) fun A i s Q E st hq=>wpAny_pyIter_striter_ascii st hq))
end
def Wlk (J:It)(G:Hp→Prop)(xs:List V):Prop:=∀H,G H→(∀i,i<xs.length→J.go i H∧∀x H',J.yld i H x H'→H'=H∧xs[i]? = some x)∧J.stop xs.length H
theorem wlk_list {K:PySem.W.Frag}{a:Addr}{xs:List V}:Wlk (Itl K a) (fun H=>SqL K H a xs) xs:=fun H q =>
 ⟨fun i hi=>⟨⟨xs,xs[i],q,by simp[hi]⟩,fun x H' y=>⟨y.1,y.2 xs q⟩⟩,⟨xs,q,Nat.le_refl _⟩⟩
theorem wlk_tup {K:PySem.W.Frag}{a:Addr}{xs:List V}:Wlk (Itt K a) (fun H=>SqT K H a xs) xs:=fun H q =>
 ⟨fun i hi=>⟨⟨xs,xs[i],q,by simp[hi]⟩,fun x H' y=>⟨y.1,y.2 xs q⟩⟩,⟨xs,q,Nat.le_refl _⟩⟩
theorem wlk_range {lo:Int}{n:Nat}{G:Hp→Prop}:Wlk (Itr lo n) G ((List.range n).map fun(k:Nat)=>V.int (lo+(k:Int))):=fun H _=>by
 refine⟨fun i hi=>⟨by show i<n;simpa using hi,fun x H' y=>⟨y.1,?_⟩⟩,?_⟩
 ·have hi':i<n:=by simpa using hi
  rw[y.2];simp[hi']
 ·show n≤_;simp
theorem wlk_str {x:Str}{G:Hp→Prop}:Wlk (Its x) G (x.cps.toList.map fun c=>V.str (T [c])):=fun H _=>by
 refine⟨fun i hi=>⟨by show i<x.cps.size;simpa using hi,fun v H' y=>⟨y.1,?_⟩⟩,?_⟩
 ·obtain⟨_,c,hc,rfl⟩:=y
  rw[List.getElem?_map,hc];rfl
 ·show x.cps.size≤_;simp
theorem for_wlk {J:It}{G:Hp→Prop}{xs:List V}(W:Wlk J G xs){g:TG}{tb:TS}{D:Ends}{σ:St}{H:Hp}(Pv:Nat→St→Hp→Prop)(h0:Pv 0 σ H)(hG:∀i σ H,i≤xs.length→Pv i σ H→G H)
  (hs:∀i x σ H,xs[i]? = some x→Pv i σ H→g x σ H fun σ2 H2=>tb {D with nx:=Pv (i+1),ct:=Pv (i+1),bk:=D.nx} σ2 H2) (hd:∀σ H,Pv xs.length σ H→D.nx σ H) :
  ∃ W:Nat→Nat→St→Hp→Prop,(∃m,W 0 m σ H)∧∀i m σ H,W i m σ H →
   (J.stop i H∧D.nx σ H)∨(J.go i H∧∃N:St→Hp→Prop,(∀σ' H',N σ' H'→∃m',m'<m∧W (i+1) m' σ' H')∧∀x H',J.yld i H x H'→g x σ H' fun σ2 H2=>tb {D with nx:=N,ct:=N,bk:=D.nx} σ2 H2):=by
 refine⟨fun i m σ H=>m=xs.length - i∧i≤xs.length∧Pv i σ H,⟨xs.length,by simp,Nat.zero_le _,h0⟩,?_⟩
 rintro i m σ H ⟨rfl,hi,p⟩
 obtain⟨w1,w2⟩:=W H (hG i σ H hi p)
 by_cases hlt:i<xs.length
 ·obtain⟨g1,g2⟩:=w1 i hlt
  refine .inr ⟨g1,Pv (i+1),fun σ' H' p'=>⟨xs.length - (i+1),by omega,rfl,hlt,p'⟩,fun x H' y=>?_⟩
  obtain⟨e,hx⟩:=g2 x H' y
  subst e
  exact hs i x σ _ hx p
 ·have e:i=xs.length:=by omega
  subst e
  exact .inl ⟨w2,hd σ H p⟩
theorem turns_wlk {J:It}{G:Hp→Prop}{xs:List V}(W:Wlk J G xs)(hz:xs.length≤sizeLine){g:TG}{tt:TT}{te:TE}{σ0:St}{F:List V→Hp→Prop}{H1:Hp}(Pv:Nat→List V→Hp→Prop)(h0:Pv 0 [] H1)(hG:∀i ys H,i≤xs.length→Pv i ys H→G H∧ys.length≤i)
  (hs:∀i x ys H,xs[i]? = some x→Pv i ys H→g x σ0 H fun σ2 H2=>Kps σ0 σ2∧tt σ2 H2 fun b H3=>if b=true then te σ2 H3 fun y H4=>Pv (i+1) (ys++[y]) H4 else Pv (i+1) ys H3) (hd:∀ys H,Pv xs.length ys H→F ys H) :
  tTurns g tt te σ0 F J H1:=by
 refine⟨fun i m ys H=>m=xs.length - i∧i≤xs.length∧Pv i ys H,⟨xs.length,by simp,Nat.zero_le _,h0⟩,?_⟩
 rintro i m ys H ⟨rfl,hi,p⟩
 obtain⟨gH,hl⟩:=hG i ys H hi p
 refine⟨by omega,?_⟩
 obtain⟨w1,w2⟩:=W H gH
 by_cases hlt:i<xs.length
 ·obtain⟨g1,g2⟩:=w1 i hlt
  refine .inr ⟨g1,by omega,Pv (i+1),fun ys' H' p'=>⟨xs.length - (i+1),by omega,rfl,hlt,p'⟩,fun x H' y=>?_⟩
  obtain⟨e,hx⟩:=g2 x H' y
  subst e
  exact hs i x ys _ hx p
 ·have e:i=xs.length:=by omega
  subst e
  exact .inl ⟨w2,hd ys H p⟩
theorem Kps.set {σ:St}{i:Nat}{v:V}(h:σ[i]? = some none):Kps σ (σ.set i (some v)):=by
 refine⟨by simp,fun j u e=>?_⟩
 by_cases hj:i=j
 ·subst hj;rw[h] at e;cases e
 ·rw[List.getElem?_set_ne hj];exact e
theorem Kps.trans {a b c:St}(h:Kps a b)(k:Kps b c):Kps a c:=⟨k.1.trans h.1,fun i v e=>k.2 i v (h.2 i v e)⟩
def Gat (K:PySem.W.Frag)(H1:Hp)(e:Nat→PyData)(i:Nat)(ys:List V)(H:Hp):Prop:=Same H1 H∧Iss K H ys ((List.range i).map e)
theorem Gat.snoc {K:PySem.W.Frag}{H1 H H4:Hp}{e:Nat→PyData}{i:Nat}{ys:List V}{y:V}(h:Gat K H1 e i ys H)(sm:Same H H4)(is:Is K H4 y (e i)):Gat K H1 e (i+1) (ys++[y]) H4:=by
 refine⟨h.1.trans sm,?_⟩
 rw[List.range_succ,List.map_append]
 exact(h.2.mono sm).append (.cons is .nil)
def GatF (K:PySem.W.Frag)(H1:Hp)(p:Nat→Bool)(e:Nat→PyData)(i:Nat)(ys:List V)(H:Hp):Prop:=Same H1 H∧Iss K H ys (((List.range i).filter p).map e)
theorem GatF.snoc {K:PySem.W.Frag}{H1 H H4:Hp}{p:Nat→Bool}{e:Nat→PyData}{i:Nat}{ys:List V}{y:V}(h:GatF K H1 p e i ys H)(hp:p i=true)(sm:Same H H4)(is:Is K H4 y (e i)):GatF K H1 p e (i+1) (ys++[y]) H4:=by
 refine⟨h.1.trans sm,?_⟩
 rw[List.range_succ,List.filter_append,List.map_append]
 refine(h.2.mono sm).append ?_
 simp only[List.filter_cons,hp,if_true,List.filter_nil,List.map_cons,List.map_nil]
 exact .cons is .nil
end L2
namespace L2
open PySem PySem.Spec PyProof.Rows
section
variable {X:Cx}
theorem old_ne {s:Shared}{b:Addr}{o:Obj}(e:s.heap.get? b=some o):b∉[s.heap.objs.size]:=fun z=>by
 have e':b=s.heap.objs.size:=by simpa using z
 subst e'
 exact absurd (Heap.lt_size e) (Nat.lt_irrefl _)
theorem vals_bl:∀{bs:List Bool}{us:List Value},Vals (bs.map V.bl) us→us=bs.map Value.bool
 | [],_,r=>by cases r;rfl
 | b::bs,_,r=>by
  cases r with
  | cons r t=>cases r;rw[vals_bl t];rfl
theorem range_all {α:Type}(l:List α)(d:α)(p:α→Bool):(List.range l.length).all (fun i=>p (l.getD i d))=l.all p:=by
 have:(List.range l.length).map (fun i=>l.getD i d)=l:=range_getD l d
 conv=>rhs;rw[← this]
 rw[List.all_map];rfl
theorem range_any {α:Type}(l:List α)(d:α)(p:α→Bool):(List.range l.length).any (fun i=>p (l.getD i d))=l.any p:=by
 have:(List.range l.length).map (fun i=>l.getD i d)=l:=range_getD l d
 conv=>rhs;rw[← this]
 rw[List.any_map];rfl
theorem truth_bools {prog:Program}{w:World}{A:Around}(bs:List Bool):TruthOf prog w A (fun i v=>(bs.map Value.bool).toArray[i]? = some v) (fun i=>bs.getD i false):=by
 intro i v s Q E hP hQ
 have e:(bs.map Value.bool)[i]? = some v:=by simpa using hP
 rw[List.getElem?_map] at e
 cases hb:bs[i]? with
 | none=>rw[hb] at e;cases e
 | some b =>
  rw[hb] at e
  have e':v=Value.bool b:=(Option.some.inj e).symm
  subst e'
  have:bs.getD i false=b:=by rw[List.getD_eq_getElem?_getD,hb];rfl
  have hQ':Q (bs.getD i false) s:=hQ
  rw[this] at hQ'
  exact wpAny_truthy_bool hQ'
theorem call_all (hc:X.calm=true):CallR X (.builtin "all") (fun xs H Q=>∃(a:Addr) (bs:List Bool),xs=[.ref a]∧SqL X.K H a (bs.map V.bl)∧Q (.bl (bs.all id)) H):=by
 intro pins s σ H xs us Q I r h
 obtain⟨a,bs,rfl,ha,q⟩:=h
 obtain⟨u,rfl,ru⟩:=vals1 r
 cases ru
 obtain⟨its,rv,pl,hz⟩:=I.list ha
 obtain rfl:=vals_bl rv
 refine call_all_walk (wpAny_pyIter_list pl.isList ?_)
 have hlt:a<s.heap.objs.size:=by obtain⟨_,_,e,_⟩:=pl;exact Heap.lt_size e
 refine⟨_,_,_,_,_,_,fun i=>bs.getD i false,rfl,Walks.list (show X.A.in1.handled=none from I.ok.hd hc) s.heap.objs.size a (Nat.ne_of_lt hlt) _,⟨⟨_,Heap.get?_push_size _ rfl,rfl,rfl⟩,pl.isList.push _⟩,truth_bools bs,fun h' tk hk=>?_⟩
 refine⟨.bl _,H,I.kept (h':=h') (t':=tk) fun b o e=>hk b o (old_ne e) (Heap.get?_push_of_some _ e),rfl,?_⟩
 have:(List.range ((bs.map Value.bool).toArray).size).all (fun i=>bs.getD i false)=bs.all id:=by
  rw[show((bs.map Value.bool).toArray).size=bs.length by simp]
  exact range_all bs false id
 rw[this]
 exact q
theorem call_any (hc:X.calm=true):CallR X (.builtin "any") (fun xs H Q=>∃(a:Addr) (bs:List Bool),xs=[.ref a]∧SqL X.K H a (bs.map V.bl)∧Q (.bl (bs.any id)) H):=by
 intro pins s σ H xs us Q I r h
 obtain⟨a,bs,rfl,ha,q⟩:=h
 obtain⟨u,rfl,ru⟩:=vals1 r
 cases ru
 obtain⟨its,rv,pl,hz⟩:=I.list ha
 obtain rfl:=vals_bl rv
 refine call_any_walk (wpAny_pyIter_list pl.isList ?_)
 have hlt:a<s.heap.objs.size:=by obtain⟨_,_,e,_⟩:=pl;exact Heap.lt_size e
 refine⟨_,_,_,_,_,_,fun i=>bs.getD i false,rfl,Walks.list (show X.A.in1.handled=none from I.ok.hd hc) s.heap.objs.size a (Nat.ne_of_lt hlt) _,⟨⟨_,Heap.get?_push_size _ rfl,rfl,rfl⟩,pl.isList.push _⟩,truth_bools bs,fun h' tk hk=>?_⟩
 refine⟨.bl _,H,I.kept (h':=h') (t':=tk) fun b o e=>hk b o (old_ne e) (Heap.get?_push_of_some _ e),rfl,?_⟩
 have:(List.range ((bs.map Value.bool).toArray).size).any (fun i=>bs.getD i false)=bs.any id:=by
  rw[show((bs.map Value.bool).toArray).size=bs.length by simp]
  exact range_any bs false id
 rw[this]
 exact q
theorem vals_strs:∀{ss:List Str}{us:List Value},Vals (ss.map V.str) us→StrsAre us ss
 | [],_,r=>by cases r;exact .nil
 | x::ss,_,r=>by
  cases r with
  | cons r t=>obtain⟨u,rfl⟩:=r;exact .cons _ _ (vals_strs t)
theorem glued_T (ls:List (List Nat)):Txt.join (T []) (ls.map T)=T ls.flatten:=by
 have key:∀(ls:List (List Nat)) (acc:Array Nat),(ls.map T).foldl (fun acc p=>acc++(T []).cps++p.cps) acc=acc++ls.flatten.toArray:=by
  intro ls
  induction ls with
  | nil=>intro acc;simp
  | cons l r ih =>
   intro acc
   rw[List.map_cons,List.foldl_cons,ih]
   simp[T]
 show(⟨((ls.map T).drop 1).foldl (fun acc p=>acc++(T []).cps++p.cps) ((ls.map T).headD Str.empty).cps⟩:Str)=_
 cases ls with
 | nil=>rfl
 | cons l r =>
  simp only[List.map_cons,List.drop_succ_cons,List.drop_zero,List.headD_cons]
  rw[key]
  simp[T]
def rJoin (K:PySem.W.Frag):V→List V→Hp→VK→Prop:=fun x vs H Q=>∃(a:Addr) (ls:List (List Nat)),x=.str (T [])∧vs=[.ref a]∧SqL K H a (ls.map fun l=>V.str (T l))∧ls.flatten.length≤1000000∧Q (.str (T ls.flatten)) H
theorem mt_join:MtR X "str.join" (rJoin X.K):=by
 intro pins s σ H x xs v us Q I rx rs h
 obtain⟨a,ls,rfl,rfl,ha,hz,q⟩:=h
 obtain⟨t,rfl⟩:=rx
 obtain⟨u,rfl,ru⟩:=vals1 rs
 cases ru
 obtain⟨its,rv,pl,hsz⟩:=I.list ha
 have rv':Vals ((ls.map T).map V.str) its:=by rw[List.map_map];exact rv
 have hlen:((ls.map T).map (·.length)).sum=ls.flatten.length:=by
  rw[List.map_map,List.length_flatten]
  exact congrArg List.sum (List.map_congr_left fun l _=>T_len l)
 refine join_list pl.isList (by simpa using vals_strs rv') ?_ fun t' k=>?_
 ·rw[hlen,T_len]
  simp only[List.length_nil,Nat.mul_zero,Nat.add_zero]
  exact Nat.le_trans hz (by decide)
 ·rw[glued_T]
  exact⟨.str _,H,I.tok _,⟨_,rfl⟩,q⟩
theorem starts_T (l m:List Nat):Txt.startswith (T l) (T m)=m.isPrefixOf l:=by
 unfold Txt.startswith
 rw[StrLaws.subAt_eq,T_cps,T_cps,T_len,T_len,List.drop_zero,Nat.zero_add]
 rw[Bool.eq_iff_iff,Bool.and_eq_true]
 simp only[decide_eq_true_eq,beq_iff_eq]
 rw[List.isPrefixOf_iff_prefix]
 constructor
 ·rintro⟨h1,h2⟩
  rw[← h2];exact List.take_prefix _ _
 ·intro h
  exact⟨h.length_le,(List.prefix_iff_eq_take.mp h).symm⟩
def rStarts:V→List V→Hp→VK→Prop:=fun x vs H Q=>∃l m,x=.str (T l)∧vs=[.str (T m)]∧Q (.bl (m.isPrefixOf l)) H
theorem mt_starts:MtR X "str.startswith" rStarts:=by
 intro pins s σ H x xs v us Q I rx rs h
 obtain⟨l,m,rfl,rfl,q⟩:=h
 obtain⟨t,rfl⟩:=rx
 obtain⟨u,rfl,ru⟩:=vals1 rs
 obtain⟨t',rfl⟩:=ru
 refine SC.startswith ?_
 rw[starts_T]
 exact⟨.bl _,H,I,rfl,q⟩
def rInC:R2:=fun x y H Q=>∃c l,x=.str (T [c])∧y=.str (T l)∧Q (.bl (decide (c∈l))) H
theorem op_inC:OpR X (compareOp .In) rInC:=by
 intro pins s σ H x y v u Q I rx ry h
 obtain⟨c,l,rfl,rfl,q⟩:=h
 obtain⟨t,rfl⟩:=rx
 obtain⟨t',rfl⟩:=ry
 refine in_str (fin_bl I q ?_)
 have e:=StrLaws.found_one (T l) c
 rw[T_cps] at e
 exact e.symm
theorem op_addS:OpR X (binaryOp .Add) (fun x y H Q=>∃l m,x=.str (T l)∧y=.str (T m)∧l.length+m.length≤1000000∧Q (.str (T (l++m))) H):=by
 intro pins s σ H x y v u Q I rx ry h
 obtain⟨l,m,rfl,rfl,hz,q⟩:=h
 refine op_add_str pins s σ H _ _ v u Q I rx ry ⟨_,_,rfl,rfl,?_,?_⟩
 ·rw[T_len,T_len]
  first|omega|exact Nat.le_trans hz (by decide)
 ·rw[T_app];exact q
def Sm (i:Int):Prop:=i.natAbs<2 ^ 4000
theorem Sm.log {i:Int}(h:Sm i):i.natAbs.log2<4000:=by
 by_cases h0:i.natAbs=0
 ·rw[h0];decide +kernel
 ·exact(Nat.log2_lt h0).mpr h
theorem op_mulS:OpR X (binaryOp .Mult) (rI (fun i j=>Sm i∧Sm j) fun i j=>.int (i*j)):=opI fun i j _ _ _ _ _ hc q=>mul_int q (by
 obtain⟨h1,h2⟩:=hc
 have a:=h1.log
 have b:=h2.log
 unfold IntMulOk
 intro z
 rw[Bool.and_eq_true] at z
 have z2:Builtin.Int.intTooBig ((Builtin.Int.intBits i:Int)+(Builtin.Int.intBits j:Int))=true:=by first|exact z.2|exact_mod_cast z.2
 unfold Builtin.Int.intTooBig at z2
 have e1:Builtin.Int.intBits i≤4001:=by unfold Builtin.Int.intBits;split <;>omega
 have e2:Builtin.Int.intBits j≤4001:=by unfold Builtin.Int.intBits;split <;>omega
 have hb:((bitsLine:Nat):Int)≥10000:=by decide
 have:=of_decide_eq_true z2
 omega)
theorem op_fdivS:OpR X (binaryOp .FloorDiv) (rI (fun _ j=>0<j∧Sm j) fun i j=>.int (i / j)):=opI fun i j _ _ _ _ _ hc q=>by
 obtain⟨h1,h2⟩:=hc
 refine floordiv_int (by omega) ?_ (.inl (PyProof.noPylong_of_log2 (by have:=h2.log;omega)))
 rw[Int.fdiv_eq_ediv_of_nonneg i (by omega)]
 exact q
theorem Same.upd {H:Hp}{p:Addr}{o:HO}(h:H p=none):Same H (upd H p o):=fun b u e=>by rw[zP (yt e h)];exact e
theorem KV_nil:KV ([]:List (Key×V)) ([]:List (Key×Value)):=.nil
theorem zW {a b:Nat}(h:a<b∨b<a):(a:Addr)≠(b:Addr):=by
 rcases h with h|h
 ·exact Nat.ne_of_lt h
 ·exact Nat.ne_of_gt h
end
end L2
namespace L2
open PySem PySem.Spec PyProof.Rows
def tyN:PyData→String
 | .none => "NoneType" | .bool _ => "bool" | .int _ => "int" | .str _ => "str" | .list _ => "list" | .tuple _ => "tuple" | .dict _ => "dict"
theorem kit_int {K:PySem.W.Frag}(d:PyData):PySem.W.kitOne K (.type (tyN d)) (.type "int")=some (match d with | .int _=>true | .bool _=>true|_=>false):=by cases d <;>rfl
theorem kit_bool {K:PySem.W.Frag}(d:PyData):PySem.W.kitOne K (.type (tyN d)) (.type "bool")=some (match d with | .bool _=>true|_=>false):=by cases d <;>rfl
theorem kit_str {K:PySem.W.Frag}(d:PyData):PySem.W.kitOne K (.type (tyN d)) (.type "str")=some (match d with | .str _=>true|_=>false):=by cases d <;>rfl
theorem kit_tuple {K:PySem.W.Frag}(d:PyData):PySem.W.kitOne K (.type (tyN d)) (.type "tuple")=some (match d with | .tuple _=>true|_=>false):=by cases d <;>rfl
section
variable {X:Cx}
theorem call_isinstD:CallR X (.builtin "isinstance") (fun xs H Q=>∃x d n b,xs=[x,.ty n]∧Is X.K H x d∧PySem.W.kitOne X.K (.type (tyN d)) (.type n)=some b∧Q (.bl b) H):=by
 intro pins s σ H xs us Q I r h
 obtain⟨x,d,n,b,rfl,is,e,q⟩:=h
 obtain⟨u,u2,rfl,ru,r2⟩:=vals2 r
 cases r2
 have fin:∀tk,EP X pins σ Q (.bool b) {s with toks:=tk}:=fun tk=>⟨.bl b,H,I.tok _,rfl,q⟩
 cases is with
 | non=>cases (show u=Value.none from ru);exact PySem.W.kia_one PySem.W.kitx_none I.kIn True.intro e (fun z=>nomatch z) fin
 | bl y=>cases (show u=Value.bool y from ru);exact PySem.W.kia_one PySem.W.kitx_bool I.kIn True.intro e (fun z=>nomatch z) fin
 | int i=>obtain⟨t,q'⟩:=(show ∃t,u=Value.int i t from ru);cases q';exact PySem.W.kia_one PySem.W.kitx_int I.kIn True.intro e (fun z=>nomatch z) fin
 | str y=>obtain⟨t,q'⟩:=(show ∃t,u=Value.str y t from ru);cases q';exact PySem.W.kia_one PySem.W.kitx_str I.kIn True.intro e (fun z=>nomatch z) fin
 | @lst a xs ds q1 q2 =>
  cases (show u=Value.ref a from ru)
  obtain⟨its,_,⟨o,n',e1,hc,_⟩,_⟩:=I.list q1
  exact PySem.W.kia_one PySem.W.kitx_list I.kIn ⟨o,e1,hc⟩ e (fun z=>nomatch z) fin
 | @tup a xs ds q1 q2 =>
  cases (show u=Value.ref a from ru)
  obtain⟨its,_,⟨o,e1,hc,_⟩,_⟩:=I.tuple q1
  exact PySem.W.kia_one PySem.W.kitx_tuple I.kIn ⟨o,e1,hc⟩ e (fun z=>nomatch z) fin
end
end L2
namespace L2
open PySem PySem.Spec PyProof.Rows
def compChk (fs:Scope)(N:List Str)(scope:Scope)(caps:List Nat):Bool :=
 (scope.kind == .function)&&(scope.names.all fun y=>y.2 != .cell || scope.names.lookup y.1 == some .cell)&&(scope.names.all fun y=>y.2 != .local || scope.names.lookup y.1 == some .local) &&
 (scope.names.all fun y=>y.2 != .free || fs.names.lookup y.1 == some .cell || fs.names.lookup y.1 == some .free) &&
 (caps.all fun i=>match N[i]? with|some y=>scope.names.lookup y == some .free|none=>false)
theorem xr {X:Cx}{fs scope:Scope}{N:List Str}{caps:List Nat}(hs:X.env.scope=fs)(hN:X.N=N)(h:compChk fs N scope caps=true):CompOk X scope caps:=by
 unfold compChk at h
 simp only[Bool.and_eq_true,List.all_eq_true] at h
 obtain⟨⟨⟨⟨h1,h2⟩,h3⟩,h4⟩,h5⟩:=h
 refine⟨by simpa using h1,fun y hy e=>?_,fun y hy e=>?_,fun y hy e=>?_,fun i hi=>?_⟩
 ·have:=h2 y hy
  rw[e] at this
  simpa using this
 ·have:=h3 y hy
  rw[e] at this
  simpa using this
 ·have:=h4 y hy
  rw[e] at this
  unfold Env.kindOf
  rw[hs]
  simpa using this
 ·have:=h5 i hi
  rw[hN]
  cases e:N[i]? with
  | none=>rw[e] at this;simp at this
  | some y=>rw[e] at this;exact⟨y,rfl,by simpa using this⟩
theorem nd_of {X:Cx}{N:List Str}(h:X.N=N)(n:N.Nodup):X.N.Nodup:=h▸n
structure Dn (K:PySem.W.Frag)(mg:Str→Option Value)(x:Str)(st:Stmt)(ps:List Str) where
 f:Addr
 fd:FuncData
 fn:Fun K x x st f fd
 mg:mg x=some (.ref f)
 bd:Binds K fd ps []
end L2
namespace L2
open PySem PySem.Spec PyProof.Rows
section
variable {X:Cx}{pins:List (Addr×Obj)}{σ:St}{H:Hp}{s:Shared}{h':Heap}
theorem Inv.turnedL {t':Nat}{fp:List Addr}(I:Inv X pins σ H s)(k:∀b o,b∉fp→s.heap.get? b=some o→h'.get? b=some o)(hf:∀b∈fp,FpOk X pins H b):Inv X pins σ H {s with heap:=h',toks:=t'}:=by
 have nit:∀b u,H b=some u→b∉fp:=fun b u e z=>by rw[(hf b z).1] at e;cases e
 have nl:X.env.locals∉fp:=fun z=>(hf _ z).2.1 rfl
 refine I.step (g':=s.gens) (d':=s.drawn) (ch:=fp) (fun b hb=>?_) (fun b o _ _ hc e _=>k b o hc e) (fun b o _ _ hc e _=>⟨o.slots,k b o hc e⟩) (fun _ _ _ _ n=>n)
  (fun b o hc e=>⟨o,k b o hc e⟩) (fun _ _ e=>e) (fun _ _ _ e=>e) (fun b ps e=>⟨#[],by rw[e];simp⟩) (fun m hm=>?_) (fun b u e=>?_) I.bare
 ·obtain⟨_,f1,_,f3,f4,f5⟩:=hf b hb
  exact⟨f3,f1,f4,f5⟩
 ·obtain⟨o,es,ep,ho,r⟩:=hm
  exact⟨o,es,ep,k _ o nl ho,r⟩
 ·refine(I.hok b u e).stay (fun c v hc q=>k c v ?_ q) (fun _ q=>q) fun _ _ q=>q
  rcases hc with z|z
  ·rw[z];exact nit b u e
  ·exact nit c _ z
end
theorem zApart (n:Nat):Zp.Apart (n+4:Nat) (n+2:Nat) (n+3:Nat) n (n+1:Nat) :=
 ⟨zW (by omega),zW (by omega),zW (by omega),zW (by omega),zW (by omega),zW (by omega),zW (by omega),zW (by omega),zW (by omega),zW (by omega)⟩
def fpZ (n:Nat):List Addr:=[(n+4:Nat),(n+2:Nat),(n+3:Nat),n,(n+1:Nat)]
section
variable {prog:Program}{w:World}{A:Around}
theorem yields_lst {it t:Addr}{i:Nat}{items:Array Value}{x:Value}(hne:t≠it)(hx:items[i]? = some x) :
  Zp.Yields prog w A it (fun h=>h.IsListIter it t i∧h.IsList t items) (fun v=>v=x) (fun h=>h.IsListIter it t (i+1)∧h.IsList t items) :=
 fun s Q E g hQ=>Zp.nextOf_list_item g.1 g.2 hx fun h' st sb=>hQ _ h' s.toks rfl ⟨st,g.2.extBut sb.extBut hne⟩ sb
theorem ends_lst {it t:Addr}{i:Nat}{items:Array Value}(hh:A.handled=none)(hx:items[i]? = none) :
  Zp.Ends prog w A it (fun h=>h.IsListIter it t i∧h.IsList t items) :=
 fun s Q E g hE=>Zp.nextOf_list_end hh g.1 g.2 hx hE
end
def Kp (it n:Nat)(h h':Heap):Prop:=∀(c:Addr) o,(c=it∨(c:Nat)<n)→h.get? c=some o→h'.get? c=some o
structure ZS (P:Program)(w:World)(K:PySem.W.Frag)(xs:List V)(G:Hp→Prop)(n it:Nat)(S:Nat→Heap→Prop):Prop where
 obj:∀i h,S i h→∃o,h.get? (it:Addr)=some o∧∀v,o.data≠.cell v
 keep:∀i h h',S i h→(∀o,h.get? (it:Addr)=some o→h'.get? (it:Addr)=some o)→S i h'
 yld:∀(X:Cx),X.prog=P→X.w=w→X.K=K→∀(pins:List (Addr×Obj)) (s:Shared) (σ:St) (H:Hp) (i:Nat) (x:V),Inv X pins σ H s→G H→xs[i]? = some x→S i s.heap→∃G1 S1:Heap→Prop,
  (∀A,Zp.Yields P w A (it:Addr) G1 (RelV x) S1)∧(∀h',Kp it n s.heap h'→G1 h')∧(∀h h',S1 h→Kp it n h h'→S1 h')∧∀h,S1 h→S (i+1) h
 ends:∀(X:Cx),X.prog=P→X.w=w→X.K=K→∀(pins:List (Addr×Obj)) (s:Shared) (σ:St) (H:Hp) (i:Nat),Inv X pins σ H s→G H→xs.length≤i→S i s.heap→∃G1:Heap→Prop,
  (∀A:Around,A.handled=none→Zp.Ends P w A (it:Addr) G1)∧∀h',Kp it n s.heap h'→G1 h'
theorem zs_tup {P:Program}{w:World}{K:PySem.W.Frag}{xs:List V}{n it l:Nat}(hl:l<n)(hi:n≤it):ZS P w K xs (fun H=>SqT K H l xs) n it (fun i h=>h.IsTupleIter it l i) where
 obj:=fun i h ⟨o,e,c,d⟩=>⟨o,e,fun v z=>by rw[d] at z;cases z⟩
 keep:=fun i h h' z kk=>z.at kk
 yld:=by
  intro X hP hw hK pins s σ H i x I g hx st
  subst hP hw hK
  obtain⟨its,rv,pl,_⟩:=I.tuple g
  obtain⟨u,hu,ru⟩:=rv.get hx
  have p1:s.heap.IsTuple l its.toArray:=pl
  have ne:(l:Addr)≠(it:Addr):=zW (.inl (by omega))
  refine⟨fun h=>h.IsTupleIter it l i∧h.IsTuple l its.toArray,fun h=>h.IsTupleIter it l (i+1)∧h.IsTuple l its.toArray,fun A s Q E g hQ=>Zp.yields_tuple (items:=its.toArray) (i:=i) (x:=u) ne (by simpa using hu) s Q E g fun v h' tk e=>hQ v h' tk (e▸ru),fun h' kk=>⟨?_,?_⟩,fun h h' ⟨a,b⟩ kk=>⟨a.at fun o e=>kk _ _ (.inl rfl) e,?_⟩,fun h z=>z.1⟩
  ·exact st.at fun o e=>kk _ _ (.inl rfl) e
  ·obtain⟨o,e,r⟩:=p1;exact⟨o,kk _ _ (.inr hl) e,r⟩
  ·obtain⟨o,e,r⟩:=b;exact⟨o,kk _ _ (.inr hl) e,r⟩
 ends:=by
  intro X hP hw hK pins s σ H i I g hx st
  subst hP hw hK
  obtain⟨its,rv,pl,_⟩:=I.tuple g
  have p1:s.heap.IsTuple l its.toArray:=pl
  have len:=rv.length
  refine⟨_,fun A hh=>Zp.ends_tuple (t:=l) (i:=i) (items:=its.toArray) hh (by simpa using (show its.length≤i by omega)),fun h' kk=>⟨st.at fun o e=>kk _ _ (.inl rfl) e,?_⟩⟩
  obtain⟨o,e,r⟩:=p1;exact⟨o,kk _ _ (.inr hl) e,r⟩
theorem zs_lst {P:Program}{w:World}{K:PySem.W.Frag}{xs:List V}{n it l:Nat}(hl:l<n)(hi:n≤it):ZS P w K xs (fun H=>SqL K H l xs) n it (fun i h=>h.IsListIter it l i) where
 obj:=fun i h ⟨o,e,c,d⟩=>⟨o,e,fun v z=>by rw[d] at z;cases z⟩
 keep:=fun i h h' z kk=>z.at kk
 yld:=by
  intro X hP hw hK pins s σ H i x I g hx st
  subst hP hw hK
  obtain⟨its,rv,pl,_⟩:=I.list g
  obtain⟨u,hu,ru⟩:=rv.get hx
  have p1:s.heap.IsList l its.toArray:=pl.isList
  have ne:(l:Addr)≠(it:Addr):=zW (.inl (by omega))
  refine⟨fun h=>h.IsListIter it l i∧h.IsList l its.toArray,fun h=>h.IsListIter it l (i+1)∧h.IsList l its.toArray,fun A s Q E g hQ=>yields_lst (items:=its.toArray) (i:=i) (x:=u) ne (by simpa using hu) s Q E g fun v h' tk e=>hQ v h' tk (e▸ru),fun h' kk=>⟨?_,?_⟩,fun h h' ⟨a,b⟩ kk=>⟨a.at fun o e=>kk _ _ (.inl rfl) e,?_⟩,fun h z=>z.1⟩
  ·exact st.at fun o e=>kk _ _ (.inl rfl) e
  ·obtain⟨o,e,r⟩:=p1;exact⟨o,kk _ _ (.inr hl) e,r⟩
  ·obtain⟨o,e,r⟩:=b;exact⟨o,kk _ _ (.inr hl) e,r⟩
 ends:=by
  intro X hP hw hK pins s σ H i I g hx st
  subst hP hw hK
  obtain⟨its,rv,pl,_⟩:=I.list g
  have p1:s.heap.IsList l its.toArray:=pl.isList
  have len:=rv.length
  refine⟨_,fun A hh=>ends_lst (t:=l) (i:=i) (items:=its.toArray) hh (by simpa using (show its.length≤i by omega)),fun h' kk=>⟨st.at fun o e=>kk _ _ (.inl rfl) e,?_⟩⟩
  obtain⟨o,e,r⟩:=p1;exact⟨o,kk _ _ (.inr hl) e,r⟩
def vC (l:List Nat):List V:=l.map fun c=>V.str (T [c])
theorem zs_str {P:Program}{w:World}{K:PySem.W.Frag}{l:List Nat}{t:Tok}{n it:Nat}:ZS P w K (vC l) (fun _=>True) n it (fun i h=>h.IsStrIter it "str_ascii_iterator" (T l) t i) where
 obj:=fun i h z=>by obtain⟨o,e,c,d⟩:=z;exact⟨o,e,fun v z=>by rw[d] at z;cases z⟩
 keep:=fun i h h' z kk=>by obtain⟨o,e,c,d⟩:=z;exact⟨o,kk o e,c,d⟩
 yld:=by
  intro X hP hw hK pins s σ H i x I g hx st
  subst hP hw hK
  unfold vC at hx
  rw[List.getElem?_map] at hx
  cases ec:l[i]? with
  | none=>rw[ec] at hx;cases hx
  | some c =>
   rw[ec] at hx
   cases hx
   refine⟨fun h=>h.IsStrIter it "str_ascii_iterator" (T l) t i,fun h=>h.IsStrIter it "str_ascii_iterator" (T l) t (i+1),fun A s Q E g hQ=>Zp.yields_ascii (x:=T l) (t:=t) (i:=i) (c:=c) (by show l.toArray[i]? = _;simpa using ec) s Q E g fun v h' tk e=>hQ v h' tk ?_,fun h' kk=>?_,fun h h' z kk=>?_,fun h z=>z⟩
   ·obtain⟨u,rfl⟩:=e;exact⟨u,rfl⟩
   ·obtain⟨o,e,c,d⟩:=st;exact⟨o,kk _ _ (.inl rfl) e,c,d⟩
   ·obtain⟨o,e,c,d⟩:=z;exact⟨o,kk _ _ (.inl rfl) e,c,d⟩
 ends:=by
  intro X hP hw hK pins s σ H i I g hx st
  subst hP hw hK
  have hl:l.length≤i:=by simpa [vC] using hx
  refine⟨_,fun A hh=>Zp.ends_ascii (x:=T l) (t:=t) (i:=i) hh (by show l.toArray[i]? = none;simpa using hl),fun h' kk=>?_⟩
  obtain⟨o,e,c,d⟩:=st;exact⟨o,kk _ _ (.inl rfl) e,c,d⟩
def ItzG (G1 G2:Hp→Prop)(xs ys:List V):It :=
 ⟨fun i H=>G1 H∧G2 H∧i<min xs.length ys.length,fun i H v H'=>∃p x y,H p=none∧xs[i]? = some x∧ys[i]? = some y∧v=.ref p∧H'=upd H p (.tup [x,y]),fun i H=>G1 H∧G2 H∧min xs.length ys.length≤i⟩
def tnZG (n:Nat)(S1 S2:Nat→Heap→Prop)(i:Nat)(h:Heap):Prop:=∃a b f1,Zp.IsZipF h (n+4:Nat) (n+2:Nat) (n+3:Nat) .none f1∧IsPair h (n+2:Nat) (.ref n) (.ref (n+1:Nat))∧IsPair h (n+3:Nat) a b∧S1 i h∧S2 i h
theorem turn_zipG {P:Program}{w:World}{K:PySem.W.Frag}{elts:List Expr}{k:Nat}{pos:Pos}{n:Nat}{xs ys:List V}{G1 G2:Hp→Prop}{S1 S2:Nat→Heap→Prop}(A1:ZS P w K xs G1 n n S1)(A2:ZS P w K ys G2 n (n+1) S2) :
  Turn P w K (.Tuple elts k pos) (ItzG G1 G2 xs ys) (fpZ n) (n+4:Nat) (tnZG n S1 S2) where
 mem:=by simp[fpZ]
 obj:=fun i h ⟨a,b,f1,z1,z2,z3,z4,z5⟩ c hc=>by
  simp only[fpZ,List.mem_cons,List.mem_nil_iff,or_false] at hc
  rcases hc with rfl|rfl|rfl|rfl|rfl
  ·exact⟨_,z1,fun v z=>by cases z⟩
  ·exact⟨_,z2,fun v z=>by cases z⟩
  ·exact⟨_,z3,fun v z=>by cases z⟩
  ·exact A1.obj i h z4
  ·exact A2.obj i h z5
 keep:=fun i h h' ⟨a,b,f1,z1,z2,z3,z4,z5⟩ kk=>by
  refine⟨a,b,f1,kk _ (by simp[fpZ]) _ z1,kk _ (by simp[fpZ]) _ z2,kk _ (by simp[fpZ]) _ z3,A1.keep i h h' z4 fun o e=>kk _ (by simp[fpZ]) o e,A2.keep i h h' z5 fun o e=>kk _ (by simp[fpZ]) o e⟩
 item := by
  intro X hP hw hK hc i pins s σ H E I hf st hg
  obtain⟨q1,q2,hi⟩:=hg
  have i1:i<xs.length:=by omega
  have i2:i<ys.length:=by omega
  obtain⟨a,b,f1,z1,z2,z3,z4,z5⟩:=st
  obtain⟨Ga,Sa,Y1,ga,sa,ta⟩:=A1.yld X hP hw hK pins s σ H i _ I q1 (List.getElem?_eq_getElem i1) z4
  obtain⟨Gb,Sb,Y2,gb,sb',tb⟩:=A2.yld X hP hw hK pins s σ H i _ I q2 (List.getElem?_eq_getElem i2) z5
  subst hP hw hK
  have hT:s.TypeIs (.ref ((n+4:Nat):Addr)) "zip" := ⟨_,z1,rfl⟩
  unfold pyNext
  refine wpAny_bind (wpAny_attempt (wpAny_callSpecial?_slot (name:=Str.ofString "__next__") hT PySem.F.slot_zip_next
   (wpAny_call_entry PySem.F.slot_zip_next hT PySem.F.entry_zip_next ?_ (PySem.F.args_zip_next_1 _))))
  have D:=zApart n
  have nn:∀{c:Addr}{k:Nat},(c:Nat)<n→c≠((n+k:Nat):Addr):=fun {c k} hc=>zW (.inl (Nat.lt_of_lt_of_le hc (Nat.le_add_right _ _)))
  refine Zp.next_item D z1 z2 z3 (Y1 _) (Y2 _) ?_ ?_ ?_ ?_ ?_
  ·refine fun h' kk=>ga h' fun c o hc e=>kk c o ?_ e
   rcases hc with rfl|hc
   ·exact D.i1z
   ·exact nn hc
  ·refine fun h' kk=>gb h' fun c o hc e=>?_
   rcases hc with rfl|hc
   ·exact kk _ _ D.i2z D.TOi2.symm D.i12.symm e
   ·exact kk _ _ (nn hc) (nn hc) (nn (k:=0) hc) e
  ·refine fun h h' z kk=>sa h h' z fun c o hc e=>?_
   rcases hc with rfl|hc
   ·exact kk _ _ D.i1z D.TOi1.symm D.i12 e
   ·exact kk _ _ (nn hc) (nn hc) (nn hc) e
  ·refine fun h h' z kk=>sb' h h' z fun c o hc e=>?_
   rcases hc with rfl|hc
   ·exact kk _ _ D.i2z D.TOi2.symm e
   ·exact kk _ _ (nn hc) (nn hc) e
  ·rintro v1 v2 h' tk ru1 ru2 z' to' s1 s2 hp hsz kk
   refine wpAny_pure ⟨_,rfl,?_⟩
   refine wpAny_letOwnedTupleGo_zip (s:={s with heap:=h',toks:=tk}) z' fun h2 zz sb=>?_
   obtain⟨o1,e1,_⟩:=A1.obj _ _ z4
   obtain⟨o2,e2,_⟩:=A2.obj _ _ z5
   have nz:∀c:Addr,c=s.heap.objs.size→c∉fpZ n:=fun c e hc=>by
    have:=(hf c hc).1
    obtain ⟨o,ho,_⟩:∃o,s.heap.get? c=some o∧True:=by
     simp only[fpZ,List.mem_cons,List.mem_nil_iff,or_false] at hc
     rcases hc with rfl|rfl|rfl|rfl|rfl
     ·exact⟨_,z1,trivial⟩
     ·exact⟨_,z2,trivial⟩
     ·exact⟨_,z3,trivial⟩
     ·exact⟨_,e1,trivial⟩
     ·exact⟨_,e2,trivial⟩
    rw[e] at ho
    exact absurd (Heap.lt_size ho) (Nat.lt_irrefl _)
   have szz:s.heap.objs.size≠((n+4:Nat):Addr):=fun e=>nz _ rfl (by rw[e];simp[fpZ])
   have I1:Inv X pins σ H {s with heap:=h2,toks:=tk}:=I.turnedL (fp:=fpZ n) (fun c o hc e=>by
    have hc':c≠((n+4:Nat):Addr)∧c≠((n+2:Nat):Addr)∧c≠((n+3:Nat):Addr)∧c≠(n:Addr)∧c≠((n+1:Nat):Addr):=by
     simpa [fpZ] using hc
    exact sb.extBut _ _ hc'.1 (kk c o hc'.1 hc'.2.2.1 hc'.2.2.2.1 hc'.2.2.2.2 e)) hf
   have hfree:H s.heap.objs.size=none:=I.hok.fresh (Nat.le_refl _)
   have hpair:h2.get? s.heap.objs.size=some {cls:=.type "tuple", data:=.seq #[v1,v2]}:=sb.extBut _ _ szz hp
   have I2:Inv X pins σ (upd H s.heap.objs.size (.tup [xs[i],ys[i]])) {s with heap:=h2,toks:=tk}:=I1.track hfree (.inr I.sz) (Nat.ne_of_gt I.lt) (fun x c e=>by
     obtain⟨v,o,ho,_⟩:=I.cell x c e
     exact Nat.ne_of_lt (Heap.lt_size ho)) (fun p hp=>Nat.ne_of_lt (Heap.lt_size (I.pin p hp).1))
    ⟨by show 2≤sizeLine;decide,[v1,v2],.cons ru1 (.cons ru2 .nil),_,hpair,rfl,⟨_,rfl⟩,rfl⟩
   refine⟨.ref s.heap.objs.size,_,I2,rfl,⟨_,_,_,hfree,List.getElem?_eq_getElem i1,List.getElem?_eq_getElem i2,rfl,rfl⟩,⟨v1,v2,.bool false,zz,sb.extBut _ _ D.TIz (kk _ _ D.TIz D.TITO D.TIi1 D.TIi2 z2),sb.extBut _ _ D.TOz to',?_,?_⟩,fun b hb=>?_⟩
   ·exact A1.keep _ _ _ (ta _ s1) fun o e=>sb.extBut _ _ D.i1z e
   ·exact A2.keep _ _ _ (tb _ s2) fun o e=>sb.extBut _ _ D.i2z e
   ·rw[zP (fun e=>nz b e hb)]
    exact(hf b hb).1
 done:=by
  intro X hP hw hK hc i pins s σ H E I hf st hg
  obtain⟨q1,q2,hi⟩:=hg
  obtain⟨a,b,f1,z1,z2,z3,z4,z5⟩:=st
  have hT:s.TypeIs (.ref ((n+4:Nat):Addr)) "zip" := ⟨_,z1,rfl⟩
  have D:=zApart n
  have nn:∀{c:Addr}{k:Nat},(c:Nat)<n→c≠((n+k:Nat):Addr):=fun {c k} hc=>zW (.inl (Nat.lt_of_lt_of_le hc (Nat.le_add_right _ _)))
  have hh:=I.ok.hd hc
  have key:∃Ga Gb:Heap→Prop,(Zp.Ends X.prog X.w X.A.in1 (n:Addr) Ga∨(Zp.Yields X.prog X.w X.A.in1 (n:Addr) Ga (fun _=>True) (fun _=>True)∧Zp.Ends X.prog X.w X.A.in1 ((n+1:Nat):Addr) Gb))∧(∀h',Kp n n s.heap h'→Ga h')∧(∀h',Kp (n+1) n s.heap h'→Gb h'):=by
   by_cases h1:xs.length≤i
   ·obtain⟨Ga,y,g⟩:=A1.ends X hP hw hK pins s σ H i I q1 h1 z4
    subst hP hw
    exact⟨Ga,fun _=>True,.inl (y _ hh),g,fun _ _=>trivial⟩
   ·obtain⟨Ga,Sa,Y1,ga,sa,ta⟩:=A1.yld X hP hw hK pins s σ H i _ I q1 (List.getElem?_eq_getElem (Nat.lt_of_not_le h1)) z4
    obtain⟨Gb,y,g⟩:=A2.ends X hP hw hK pins s σ H i I q2 (by omega) z5
    subst hP hw
    exact⟨Ga,Gb,.inr ⟨fun s Q E g hQ=>Y1 _ s Q E g fun v h' tk _ _ sb=>hQ v h' tk trivial trivial sb,y _ hh⟩,ga,g⟩
  obtain⟨Ga,Gb,hend',ga,gb⟩:=key
  subst hP hw hK
  unfold pyNext
  refine wpAny_bind (wpAny_attempt (wpAny_callSpecial?_slot (name:=Str.ofString "__next__") hT PySem.F.slot_zip_next
   (wpAny_call_entry PySem.F.slot_zip_next hT PySem.F.entry_zip_next (Zp.next_end D z1 z2 z3 hend' ?_ ?_ ?_) (PySem.F.args_zip_next_1 _))))
  ·refine fun h' kk=>ga h' fun c o hc e=>kk c o ?_ e
   rcases hc with rfl|hc
   ·exact D.i1z
   ·exact nn hc
  ·refine fun h' kk=>gb h' fun c o hc e=>?_
   rcases hc with rfl|hc
   ·exact kk _ _ D.i2z D.TOi2.symm D.i12.symm e
   ·exact kk _ _ (nn hc) (nn hc) (nn (k:=0) hc) e
  ·intro h' tk e kk he
   obtain⟨o,ho,hc⟩:=he
   refine wpAny_bind (wpAny_isInstance (T := "StopIteration") (b:=true) ⟨o,ho,hc⟩ isSubtype_stop ?_)
   refine wpAny_pure ⟨rfl,I.turnedL (fp:=fpZ n) (fun c o hc e=>?_) hf⟩
   have hc':c≠((n+4:Nat):Addr)∧c≠((n+2:Nat):Addr)∧c≠((n+3:Nat):Addr)∧c≠(n:Addr)∧c≠((n+1:Nat):Addr):=by
    simpa [fpZ] using hc
   exact kk c o hc'.1 hc'.2.2.1 hc'.2.2.2.1 hc'.2.2.2.2 e
 self:=fun A i s Q E ⟨a,b,f1,z1,z2,z3,z4,z5⟩ h=>by
  have hT:s.TypeIs (.ref ((n+4:Nat):Addr)) "zip" := ⟨_,z1,rfl⟩
  refine wpAny_pyIter_slot hT PySem.F.slot_zip_iter (wpAny_call_entry PySem.F.slot_zip_iter hT PySem.F.entry_zip_iter ?_ (PySem.F.args_zip_iter_1 _))
  show wpAny _ _ (ret (.ref ((n+4:Nat):Addr))) _ _ s
  exact wpAny_pure ⟨_,rfl, "zip", _,hT,PySem.F.slot_zip_next.lookup,h⟩
def Itu (u:Value)(o:Obj)(G:Heap→Prop):Prop:=∀(prog:Program) (w:World) (A:Around) (s:Shared) (Q:Value→Shared→Prop) (E:Value→Shared→Prop),G s.heap→Q (.ref s.heap.objs.size) {s with heap:=s.heap.push o}→wpAny (model prog w) A (pyIter u) Q E s
section
variable {prog:Program}{w:World}{A:Around}{E:Value→Shared→Prop}{s:Shared}
theorem meets_vv {u1 u2:Value}{o1 o2:Obj}{G1 G2:Heap→Prop}(b1:Itu u1 o1 G1)(b2:Itu u2 o2 G2)(up:∀h,G2 h→G2 (h.push o1)) :
  Meets (Builtin.«zip.__new__» ⟨[.type "zip", u1,u2],[]⟩) (fun _ R s=>G1 s.heap∧G2 s.heap ∧
   R (.ok (.ret (.ref (Zp.zH4 s.heap o1 o2).objs.size))) {s with heap:=Zp.zH5 s.heap o1 o2}) :=
 .of_wp fun prog w A R s h=>by
  obtain⟨hl1,hl2,h⟩:=h
  have z3:(Zp.zH3 s.heap o1 o2).objs.size=(Zp.zH2 s.heap o1 o2).objs.size+1:=Heap.size_push ..
  have z4:(Zp.zH4 s.heap o1 o2).objs.size=(Zp.zH2 s.heap o1 o2).objs.size+2:=by rw[Heap.size_push,z3]
  refine Zp.meets_st_aux (h1:=s.heap.push o1) (h2:=Zp.zH2 s.heap o1 o2) (i1:=s.heap.objs.size) (i2:=(s.heap.push o1).objs.size)
   (fun Q E q=>b1 prog w A.in1 s Q E hl1 q) (fun Q E q=>b2 prog w A.in1 {s with heap:=s.heap.push o1} Q E (up _ hl2) q) ⟨_,rfl,?_⟩
  rw[← z4,← z3]
  exact h
theorem call_zipV {u1 u2:Value}{o1 o2:Obj}{G1 G2:Heap→Prop}{Q:Value→Shared→Prop}(f1:o1.isFreed=false)(f2:o2.isFreed=false)(b1:Itu u1 o1 G1)(b2:Itu u2 o2 G2)(up:∀h,G2 h→G2 (h.push o1))(hl1:G1 s.heap)(hl2:G2 s.heap)
  (h:∀h',Zp.Made5 s.heap h' o1 o2→Q (.ref (s.heap.objs.size+4)) {s with heap:=h'}) :
  wpAny (model prog w) A (call (.type "zip") [u1,u2]) Q E s:=by
 refine callType_new F.called_zip (by decide) (F.typeCall_zip_2 _ _) (F.newCall_zip_2 _ _) (fun obj=>F.args_object_init_3 obj _ _) F.entry_zip_new
  (meets_vv b1 b2 up) ⟨hl1,hl2,?_⟩
 obtain⟨m,z4⟩:=Zp.made5 s.heap o1 o2 f1 f2
 show _∧_
 rw[z4]
 exact⟨⟨_,m.1,rfl⟩,h _ m⟩
end
def ZArg (K:PySem.W.Frag)(H:Hp)(v:V)(xs:List V)(G:Hp→Prop):Prop :=
 (∃l,v=.ref l∧SqT K H l xs∧G=fun H=>SqT K H l xs)∨(∃l,v=.ref l∧SqL K H l xs∧G=fun H=>SqL K H l xs)∨(∃l,v=.str (T l)∧(∀c∈l,c<128)∧xs=vC l∧G=fun _=>True)
theorem zarg {X:Cx}{pins:List (Addr×Obj)}{s:Shared}{σ:St}{H:Hp}{v:V}{u:Value}{xs:List V}{G:Hp→Prop}(I:Inv X pins σ H s)(z:ZArg X.K H v xs G)(r:RelV v u):G H∧∃(o:Obj) (C:Heap→Prop),o.isFreed=false∧C s.heap∧(∀h o',C h→C (h.push o'))∧Itu u o C ∧
  ∀it:Nat,s.heap.objs.size≤it→∃S,ZS X.prog X.w X.K xs G s.heap.objs.size it S∧∀h:Heap,h.get? (it:Addr)=some o→S 0 h:=by
 rcases z with⟨l,rfl,q,rfl⟩|⟨l,rfl,q,rfl⟩|⟨l,rfl,ha,rfl,rfl⟩
 ·cases r
  obtain⟨its,rv,pl,_⟩:=I.tuple q
  have p1:s.heap.IsTuple l its.toArray:=pl
  have lt1:l<s.heap.objs.size:=by obtain⟨o,e,_⟩:=p1;exact Heap.lt_size e
  exact⟨q,Zp.tIter l,fun h=>h.IsTuple l its.toArray,rfl,p1,fun h o' ⟨o,e,r⟩=>⟨o,Heap.get?_push_of_some _ e,r⟩,fun _ _ _ _ _ _ g q=>wpAny_pyIter_tuple g q,fun it hit=>⟨_,zs_tup lt1 hit,fun h e=>⟨_,e,rfl,rfl⟩⟩⟩
 ·cases r
  obtain⟨its,rv,pl,_⟩:=I.list q
  have p1:s.heap.IsList l its.toArray:=pl.isList
  have lt1:l<s.heap.objs.size:=by obtain⟨o,e,_⟩:=p1;exact Heap.lt_size e
  exact⟨q,Zp.lIter l,fun h=>h.IsList l its.toArray,rfl,p1,fun h o' ⟨o,e,r⟩=>⟨o,Heap.get?_push_of_some _ e,r⟩,fun _ _ _ _ _ _ g q=>wpAny_pyIter_list g q,fun it hit=>⟨_,zs_lst lt1 hit,fun h e=>⟨_,e,rfl,rfl⟩⟩⟩
 ·obtain ⟨t,rfl⟩:=r
  have ha':(T l).cps.all (· < 128)=true:=by
   simp only[T,List.all_toArray,List.all_eq_true,decide_eq_true_eq]
   exact ha
  exact⟨trivial,Zp.sIter (T l) t,fun _=>True,rfl,trivial,fun _ _ _=>trivial,fun _ _ _ _ _ _ _ q=>wpAny_pyIter_ascii ha' q,fun it hit=>⟨_,zs_str,fun h e=>⟨_,e,rfl,rfl⟩⟩⟩
def Itz (K:PySem.W.Frag)(l1 l2:Addr)(xs ys:List V):It :=
 ⟨fun i H=>SqT K H l1 xs∧SqT K H l2 ys∧i<min xs.length ys.length,fun i H v H'=>∃p x y,H p=none∧xs[i]? = some x∧ys[i]? = some y∧v=.ref p∧H'=upd H p (.tup [x,y]),fun i H=>SqT K H l1 xs∧SqT K H l2 ys∧min xs.length ys.length≤i⟩
def iZip (K:PySem.W.Frag)(ta tb:TE):TI:=fun σ H R=>tCons ta (tCons tb tNil) σ H fun vs H1=>∃l1 l2 xs ys,vs=[.ref l1,.ref l2]∧SqT K H1 l1 xs∧SqT K H1 l2 ys∧R (Itz K l1 l2 xs ys) H1
section
variable {X:Cx}
theorem pi_zipP {Z:List V→Hp→(It→Hp→Prop)→Prop}(hZ:∀vs H1 R,Z vs H1 R→∃(v1 v2:V) (xs ys:List V) (G1 G2:Hp→Prop),vs=[v1,v2]∧ZArg X.K H1 v1 xs G1∧ZArg X.K H1 v2 ys G2∧R (ItzG G1 G2 xs ys) H1){elts:List Expr}{k:Nat}{tpos:Pos}{a b:Expr}{ta tb:TE}{p pos:Pos}(hg:Gl X "zip")(hm:X.mg "zip" = none)(ha:PE X a ta)(hb:PE X b tb)
  (hs:starEach [a,b] X.env=[(false,eval a X.env),(false,eval b X.env)]:=by rfl) (hs2:starEach [b] X.env=[(false,eval b X.env)]:=by rfl) :
  PI X (.Tuple elts k tpos) (.Call (.Name "zip" p) [a,b] [] pos) (fun σ H R=>tCons ta (tCons tb tNil) σ H fun vs H1=>Z vs H1 R):=by
 intro pins s σ H R I h
 have hA:PA X [a,b] (tCons ta (tCons tb tNil)):=yU ha (yU hb pa_nil hs2) (by rw[hs,hs2])
 refine wpAny_Call_Name_kw (ld_blt I hg hm boot_zip ?_)
 refine PyProof.Rows.callWith_type1 (thn (hA pos pins s σ H _ I h) fun us s1 hq35=>?_) (by rw[hs,hs2]) (by rw[hs2];rfl)
 obtain⟨vs,H2,I2,r2,zz⟩:=hq35
 obtain⟨v1,v2,xs,ys,G1,G2,ev,q1,q2,q⟩:=hZ _ _ _ zz
 subst ev
 obtain⟨u1,u2,rfl,ru1,ru2⟩:=vals2 r2
 obtain⟨g1,o1,C1,f1,c1,p1,b1,m1⟩:=zarg I2 q1 ru1
 obtain⟨g2,o2,C2,f2,c2,p2,b2,m2⟩:=zarg I2 q2 ru2
 obtain⟨S1,A1,st1⟩:=m1 s1.heap.objs.size (Nat.le_refl _)
 obtain⟨S2,A2,st2⟩:=m2 (s1.heap.objs.size+1) (Nat.le_succ _)
 refine call_zipV f1 f2 b1 b2 (fun h c=>p2 h _ c) c1 c2 fun h1 m5=>?_
 obtain⟨m1,m2,m3,m4,m6,m7,m8⟩:=m5
 have T:=turn_zipG (P:=X.prog) (w:=X.w) (K:=X.K) (elts:=elts) (k:=k) (pos:=tpos) A1 A2
 refine T.self X.A 0 _ _ _ ⟨_,_,_,m1,m2,m3,st1 _ m4,st2 _ m6⟩ ?_
 have I3:Inv X pins σ H2 {s1 with heap:=h1}:=I2.kept (t':=s1.toks) m8
 refine⟨_,fpZ s1.heap.objs.size,_,ItzG G1 G2 xs ys,H2,rfl,I3,T,⟨_,_,_,m1,m2,m3,st1 _ m4,st2 _ m6⟩,fun c hc=>?_,q⟩
 have hge:s1.heap.objs.size≤c:=by
  simp only[fpZ,List.mem_cons,List.mem_nil_iff,or_false] at hc
  rcases hc with rfl|rfl|rfl|rfl|rfl
  ·exact Nat.le_add_right _ _
  ·exact Nat.le_add_right _ _
  ·exact Nat.le_add_right _ _
  ·exact Nat.le_refl _
  ·exact Nat.le_add_right _ _
 obtain⟨f0,f1,f2,f3,f4,f5⟩:=I2.fpOk hge (I2.hok.fresh hge)
 exact⟨f0,f1,f2,f3,f4,f5⟩
theorem pi_ziptt {elts:List Expr}{k:Nat}{tpos:Pos}{a b:Expr}{ta tb:TE}{p pos:Pos}(hg:Gl X "zip")(hm:X.mg "zip" = none)(ha:PE X a ta)(hb:PE X b tb)
  (hs:starEach [a,b] X.env=[(false,eval a X.env),(false,eval b X.env)]:=by rfl) (hs2:starEach [b] X.env=[(false,eval b X.env)]:=by rfl) :
  PI X (.Tuple elts k tpos) (.Call (.Name "zip" p) [a,b] [] pos) (iZip X.K ta tb):=pi_zipP (fun vs H1 R ⟨l1,l2,xs,ys,e,q1,q2,r⟩=>⟨_,_,xs,ys,_,_,e,.inl ⟨l1,rfl,q1,rfl⟩,.inl ⟨l2,rfl,q2,rfl⟩,r⟩) hg hm ha hb hs hs2
end
end L2
namespace L2
open PySem PySem.Spec PyProof.Rows
def Srt (ls:List (List Nat)):Prop:=ls.Pairwise (·≤·)
theorem le_of_ltCps {a b:List Nat}(h:ltCps b a=false):a≤b:=by
 rw[ltCps_eq] at h
 exact List.not_lt.mp (of_decide_eq_false h)
theorem risingS_pair:∀(p:Str) (l:List Str),risingS p l=true→(p::l).Pairwise fun a b=>a.cps.toList≤b.cps.toList
 | p,[],_=>by simp
 | p,x::r,h=>by
  have h':(!ltCps x.cps.toList p.cps.toList&&risingS x r)=true:=h
  rw[Bool.and_eq_true] at h'
  have h1:p.cps.toList≤x.cps.toList:=le_of_ltCps (by simpa using h'.1)
  have h2:=risingS_pair x r h'.2
  refine List.pairwise_cons.mpr ⟨fun y hy=>?_,h2⟩
  rcases List.mem_cons.mp hy with rfl|hy
  ·exact h1
  ·exact List.le_trans h1 (List.rel_of_pairwise_cons h2 hy)
theorem srt_of {ss:List Str}(h:sortedS ss=true):Srt (ss.map fun x=>x.cps.toList):=by
 unfold Srt
 rw[List.pairwise_map]
 cases ss with
 | nil=>simp
 | cons x r=>exact risingS_pair x r h
theorem strs_vals:∀{us:List Value}{ss:List Str},StrsAre us ss→Vals (ss.map V.str) us
 | _,_,.nil=>.nil
 | _,_,.cons x t h=>.cons ⟨t,rfl⟩ (strs_vals h)
def vT (ls:List (List Nat)):List V:=ls.map fun l=>V.str (T l)
theorem vT_str (ss:List Str):ss.map V.str=vT (ss.map fun x=>x.cps.toList):=by
 unfold vT
 rw[List.map_map]
 exact List.map_congr_left fun x _=>congrArg V.str (T_of x).symm
theorem vT_T (ls:List (List Nat)):vT ls=(ls.map T).map V.str:=by unfold vT;rw[List.map_map];rfl
section
variable {X:Cx}
theorem call_sortedS:CallR X (.builtin "sorted") (fun xs H Q=>∃a ls,xs=[.ref a]∧SqL X.K H a (vT ls)∧ls.length<64∧∀p ms,H p=none→ms.Perm ls→Srt ms→Q (.ref p) (upd H p (.lst (vT ms)))):=by
 intro pins s σ H xs us Q I r h
 obtain⟨a,ls,rfl,ha,h64,q⟩:=h
 obtain⟨u,rfl,ru⟩:=vals1 r
 cases ru
 obtain⟨its,rv,pl,hz⟩:=I.list ha
 rw[vT_T] at rv
 have hl:=rv.length
 simp only[List.length_map] at hl
 refine sorted_strs pl.isList (vals_strs rv) (by omega) fun out ss' h1 h2 h3=>?_
 have hS:=srt_of h3
 have hP:(ss'.map fun x=>x.cps.toList).Perm ls:=by
  have:=h2.map fun x:Str=>x.cps.toList
  rw[List.map_map] at this
  have e:ls.map ((fun x:Str=>x.cps.toList)∘T)=ls:=by
   have:((fun x:Str=>x.cps.toList)∘T)=id:=funext fun l=>T_cps l
   rw[this,List.map_id]
  rw[e] at this
  exact this
 obtain⟨c,hat⟩:=sortedAll_at s.heap its out
 have hlen:ss'.length=ls.length:=by have:=h2.length_eq;simpa using this
 refine⟨.ref (s.heap.objs.size+1),_,I.laid (t':=s.toks) (o:=.lst (vT (ss'.map fun x=>x.cps.toList))) (fun b o e=>sortedAll_old e) (Nat.le_succ _) ?_,rfl,q _ _ (I.hok.fresh (Nat.le_succ _)) hP hS⟩
 refine⟨?_,out.toList,c,?_,by simpa [seqObj] using hat⟩
 ·rw[← vT_str,List.length_map,sizeLine_eq];omega
 ·rw[← vT_str];exact strs_vals h1
theorem vals_of:∀{xs:List V}{us:List Value},xs.length=us.length→(∀(j:Nat) x u,xs[j]? = some x→us[j]? = some u→RelV x u)→Vals xs us
 | [],[],_,_=>.nil
 | [],_::_,h,_=>by simp at h
 | _::_,[],h,_=>by simp at h
 | x::xs,u::us,h,k=>.cons (k 0 x u rfl rfl) (vals_of (by simpa using h) fun j y v e1 e2=>k (j+1) y v (by simpa using e1) (by simpa using e2))
def Itr3 (lo c:Int)(n:Nat):It:=⟨fun i _=>i<n,fun i H x H'=>H'=H∧x=.int (lo+(i:Int)*c),fun i _=>n≤i⟩
theorem wlk_range3 {lo c:Int}{n:Nat}{G:Hp→Prop}:Wlk (Itr3 lo c n) G ((List.range n).map fun(k:Nat)=>V.int (lo+(k:Int)*c)):=fun H _=>by
 refine⟨fun i hi=>⟨by show i<n;simpa using hi,fun x H' y=>⟨y.1,?_⟩⟩,?_⟩
 ·have hi':i<n:=by simpa using hi
  rw[y.2];simp[hi']
 ·show n≤_;simp
theorem turn_range3 {P:Program}{w:World}{K:PySem.W.Frag}{tg:Expr}(it:Addr)(lo c:Int)(n:Nat):Turn P w K tg (Itr3 lo c n) [it] it (fun i h=>IsRangeIter h it (lo+(i:Nat)*c) ((n:Int) - (i:Nat)) c) where
 mem:=by simp
 obj:=fun i h st b hb=>by
  have e:b=it:=by simpa using hb
  subst e
  exact ⟨_,st,fun v z=>by
   have z':Data.fields _=Data.cell v:=z
   cases z'⟩
 keep:=fun i h h' st k=>k it (by simp) _ st
 item:=by
  intro X hP hw hK hc i pins s σ H E I hf st hg
  subst hP hw hK
  obtain⟨f0,f1,f2,f3,f4,f5⟩:=hf it (by simp)
  have W:=Walks.range (prog:=X.prog) (w:=X.w) (I.ok.hd hc) it lo c n
  refine W.item i s _ _ hg st fun v h' tk hv st' kk=>?_
  obtain⟨t,rfl⟩:=hv
  have I1:Inv X pins σ H {s with heap:=h',toks:=tk}:=I.turned (fun b o hb e=>kk b o (by simpa using hb) e) f0 f1 f3 f4 f5
  exact⟨_,rfl,go_of (s:={s with heap:=h',toks:=tk}) (n := "range_iterator") st' rfl rfl (by decide) ⟨.int (lo+i*c),H,I1,⟨t,rfl⟩,⟨rfl,rfl⟩,st',fun b hb=>(hf b hb).1⟩⟩
 done:=by
  intro X hP hw hK hc i pins s σ H E I hf st hg
  subst hP hw hK
  obtain⟨f0,f1,f2,f3,f4,f5⟩:=hf it (by simp)
  exact wpAny_pyNext_range_end (I.ok.hd hc) st (by have:n≤i:=hg;omega) fun h' eb=>⟨rfl,I.turned (t':=s.toks) (fun b o hb e=>eb b o hb e) f0 f1 f3 f4 f5⟩
 self:=fun _ _ _ _ _ st h=>wpAny_pyIter_rangeiter st h
def iRng3 (ta:TA):TI:=fun σ H R=>ta σ H fun vs H1=>∃i j c:Int,vs=[.int i,.int j,.int c]∧0≤i∧i≤j∧j<2 ^ 20∧0<c∧c<2 ^ 20∧R (Itr3 i c ((j - i+c - 1) / c).toNat) H1
theorem small3 {a b c:Int}(h0:0≤a)(h1:a≤b)(h2:b<2 ^ 20)(h3:0<c)(h4:c<2 ^ 20):Builtin.Range.small a b c=true:=by
 have hr:0≤Builtin.Range.rangeSize a b c∧Builtin.Range.rangeSize a b c≤2 ^ 20:=by
  unfold Builtin.Range.rangeSize
  rw[if_pos (show c > 0 from h3)]
  split
  ·have e1:0≤(b - a - 1) / c:=Int.ediv_nonneg (by omega) (by omega)
   have e2:(b - a - 1) / c≤b - a - 1:=Int.ediv_le_self _ (by omega)
   omega
  ·omega
 have hm:(Builtin.Range.rangeSize a b c)*c≤2 ^ 40:=by
  have:=Int.mul_le_mul hr.2 (Int.le_of_lt h4) (by omega) (by decide)
  have e:(2:Int) ^ 20*2 ^ 20=2 ^ 40:=by decide
  omega
 have hm0:0≤(Builtin.Range.rangeSize a b c)*c:=Int.mul_nonneg hr.1 (by omega)
 unfold Builtin.Range.small
 simp only[Builtin.Range.rangeFitsLong,Bool.and_eq_true,Bool.or_eq_true,decide_eq_true_eq,beq_iff_eq,if_pos (show c > 0 from h3)]
 generalize Builtin.Range.rangeSize a b c=n at *
 omega
theorem pi_range3 {tg a b c:Expr}{ta:TA}{p pos:Pos}(hg:Gl X "range")(hm:X.mg "range" = none)(ha:PA X [a,b,c] ta)(hs:starEach [a,b,c] X.env=[(false,eval a X.env),(false,eval b X.env),(false,eval c X.env)]:=by rfl)(hs2:starEach [b,c] X.env=[(false,eval b X.env),(false,eval c X.env)]:=by rfl) :
  PI X tg (.Call (.Name "range" p) [a,b,c] [] pos) (iRng3 ta):=by
 intro pins s σ H R I h
 refine Call_ (ld_blt I hg hm boot_range (PyProof.Rows.callWith_type1 (thn (ha pos pins s σ H _ I h) fun us s1 hq36=>?_) (by rw[hs,hs2]) (by rw[hs2];rfl)))
 obtain⟨vs,H1,I1,r1,q1⟩:=hq36
 obtain⟨i,j,c,e,h0,h1,h2,h3,h4,q⟩:=q1
 subst e
 cases r1 with
 | cons r rr =>
  cases rr with
  | cons r' rr =>
   cases rr with
   | cons r'' rr =>
    cases rr
    obtain⟨t,rfl⟩:=r
    obtain⟨t',rfl⟩:=r'
    obtain⟨t'',rfl⟩:=r''
    refine call_range_3 (by omega) ?_ (Or.inl (PyProof.noPylong_small (by omega)))
    refine wpAny_pyIter_range (IsRange.new ..) (small3 h0 h1 h2 h3 h4) ?_
    have I2:Inv X pins σ H1 {s1 with heap:=s1.heap.push {cls:=.type "range", data:=.fields #[.int i t,.int j t',.int c t'']} }:=I1.kept (t':=s1.toks) fun b o e=>Heap.get?_push_of_some _ e
    refine ⟨(s1.heap.push {cls:=.type "range", data:=.fields #[.int i t,.int j t',.int c t'']}).objs.size,[(s1.heap.push {cls:=.type "range", data:=.fields #[.int i t,.int j t',.int c t'']}).objs.size],_,_,H1,rfl,
     I2.kept (t':=s1.toks) fun b o e=>Heap.get?_push_of_some _ e,turn_range3 _ i c _,?_,fun b hb=>?_,q⟩
    ·have e1:i+((0:Nat):Int)*c=i:=by simp
     have e2:(((((j - i+c - 1) / c).toNat:Nat):Int)) - ((0:Nat):Int)=Builtin.Range.rangeSize i j c:=by
      unfold Builtin.Range.rangeSize
      rw[if_pos (show c > 0 from h3)]
      have e3:(j - i+c - 1) / c=(j - i - 1) / c+1:=by
       have:j - i+c - 1=(j - i - 1)+c*1:=by omega
       rw[this,Int.add_mul_ediv_left _ _ (by omega)]
      split
      ·have:=Int.ediv_nonneg (show 0≤j - i - 1 by omega) (show 0≤c by omega)
       omega
      ·have:j - i - 1 = -1:=by omega
       rw[e3,this,Int.ediv_eq_neg_one_of_neg_of_le (by omega) (by omega)]
       simp
     show IsRangeIter _ _ (i+((0:Nat):Int)*c) (((((j - i+c - 1) / c).toNat:Nat):Int) - ((0:Nat):Int)) c
     rw[e1,e2]
     exact Heap.get?_push_size _ rfl
    ·have e:b=(s1.heap.push {cls:=.type "range", data:=.fields #[.int i t,.int j t',.int c t'']}).objs.size:=by simpa using hb
     subst e
     exact I2.fpOk (Nat.le_refl _) (I2.hok.fresh (Nat.le_refl _))
theorem pg_two {K:PySem.W.Frag}{i j:Nat}{x y:Str}{px py pos:Pos}{k:Nat}(hK:X.K=K)(hc:X.calm=true)(hN:X.N.Nodup)(hi:X.N[i]? = some x)(hj:X.N[j]? = some y)(hx:Loc X.env.scope x)(hy:Loc X.env.scope y)
  (fx:X.fn x=true∨X.env.scope.names.lookup x=some .local:=by first|exact .inl rfl|exact .inr rfl|assumption) (fy:X.fn y=true∨X.env.scope.names.lookup y=some .local:=by first|exact .inl rfl|exact .inr rfl|assumption) :
  PG X (.Tuple [.Name x px,.Name y py] k pos) (gTup K 2 (gCons (gName i) (gCons (gName j) gNil))):=hK▸pg_tup hc (pgs_cons (yc hN hi hx fx) (pgs_cons (yc hN hj hy fy) pgs_nil))
end
theorem turns_zip {K:PySem.W.Frag}{l1 l2:Addr}{xs ys:List V}(hz:xs.length≤sizeLine){g:TG}{tt:TT}{te:TE}{σ0:St}{F:List V→Hp→Prop}{H1:Hp}(Pv:Nat→List V→Hp→Prop)(h0:Pv 0 [] H1)(hG:∀i vs H,Pv i vs H→SqT K H l1 xs∧SqT K H l2 ys∧vs.length≤i)
  (hs:∀i x y p vs H,xs[i]? = some x→ys[i]? = some y→H p=none→Pv i vs H→g (.ref p) σ0 (upd H p (.tup [x,y])) fun σ2 H2=>Kps σ0 σ2∧tt σ2 H2 fun b H3=>if b=true then te σ2 H3 fun v H4=>Pv (i+1) (vs++[v]) H4 else Pv (i+1) vs H3) (hd:∀vs H,Pv (min xs.length ys.length) vs H→F vs H) :
  tTurns g tt te σ0 F (Itz K l1 l2 xs ys) H1:=by
 refine⟨fun i m vs H=>m=min xs.length ys.length - i∧i≤min xs.length ys.length∧Pv i vs H,⟨_,rfl,Nat.zero_le _,h0⟩,?_⟩
 rintro i m vs H ⟨rfl,hi,p⟩
 obtain⟨q1,q2,hl⟩:=hG i vs H p
 refine⟨by omega,?_⟩
 by_cases hlt:i<min xs.length ys.length
 ·refine .inr ⟨⟨q1,q2,hlt⟩,by omega,Pv (i+1),fun vs' H' p'=>⟨min xs.length ys.length - (i+1),by omega,rfl,hlt,p'⟩,?_⟩
  rintro v H' ⟨a,x,y,e0,e1,e2,rfl,rfl⟩
  exact hs i x y a vs H e1 e2 e0 p
 ·have e:i=min xs.length ys.length:=by omega
  subst e
  exact .inl ⟨⟨q1,q2,Nat.le_refl _⟩,hd vs H p⟩
theorem for_zip {K:PySem.W.Frag}{l1 l2:Addr}{xs ys:List V}{g:TG}{tb:TS}{D:Ends}{σ:St}{H:Hp}(Pv:Nat→St→Hp→Prop)(h0:Pv 0 σ H)(hG:∀i σ H,Pv i σ H→SqT K H l1 xs∧SqT K H l2 ys)
  (hs:∀i x y p σ H,xs[i]? = some x→ys[i]? = some y→H p=none→Pv i σ H→g (.ref p) σ (upd H p (.tup [x,y])) fun σ2 H2=>tb {D with nx:=Pv (i+1),ct:=Pv (i+1),bk:=D.nx} σ2 H2) (hd:∀σ H,Pv (min xs.length ys.length) σ H→D.nx σ H) :
  ∃ W:Nat→Nat→St→Hp→Prop,(∃m,W 0 m σ H)∧∀i m σ H,W i m σ H →
   ((Itz K l1 l2 xs ys).stop i H∧D.nx σ H)∨((Itz K l1 l2 xs ys).go i H∧∃N:St→Hp→Prop,(∀σ' H',N σ' H'→∃m',m'<m∧W (i+1) m' σ' H')∧∀x H',(Itz K l1 l2 xs ys).yld i H x H'→g x σ H' fun σ2 H2=>tb {D with nx:=N,ct:=N,bk:=D.nx} σ2 H2):=by
 refine⟨fun i m σ H=>m=min xs.length ys.length - i∧i≤min xs.length ys.length∧Pv i σ H,⟨_,rfl,Nat.zero_le _,h0⟩,?_⟩
 rintro i m σ H ⟨rfl,hi,p⟩
 obtain⟨q1,q2⟩:=hG i σ H p
 by_cases hlt:i<min xs.length ys.length
 ·refine .inr ⟨⟨q1,q2,hlt⟩,Pv (i+1),fun σ' H' p'=>⟨min xs.length ys.length - (i+1),by omega,rfl,hlt,p'⟩,?_⟩
  rintro v H' ⟨a,x,y,e0,e1,e2,rfl,rfl⟩
  exact hs i x y a σ H e1 e2 e0 p
 ·have e:i=min xs.length ys.length:=by omega
  subst e
  exact .inl ⟨⟨q1,q2,Nat.le_refl _⟩,hd σ H p⟩
end L2
namespace My
def abcd:List Nat:=[97,98,99,100]
def wt (ws:List Int)(c:Nat):Int:=ws.getD (c - 97) 0
def up (ws:List Int):List Nat→Int
 | []=>1
 | c::r=>wt ws c*up ws r
def dn (ws:List Int)(l:List Nat):Int:=ws.sum ^ l.length
def SrcOk (ws:List Int):Prop:=2≤ws.length∧ws.length≤4∧∀w∈ws,1≤w∧w≤99
def LetOk (m:Nat)(l:List Nat):Prop:=∀c∈l,97≤c∧c<97+m
theorem LetOk.app {m:Nat}{l k:List Nat}(a:LetOk m l)(b:LetOk m k):LetOk m (l++k):=fun c hc=>by
 rcases List.mem_append.mp hc with h|h
 ·exact a c h
 ·exact b c h
theorem pow_mono {a:Int}(ha:1≤a){n m:Nat}(h:n≤m):a ^ n≤a ^ m:=by
 obtain⟨k,rfl⟩:=Nat.exists_eq_add_of_le h
 rw[Int.pow_add]
 have h1:0<a ^ n:=Int.pow_pos (by omega)
 have h2:0<a ^ k:=Int.pow_pos (by omega)
 have:=Int.mul_le_mul_of_nonneg_left (show(1:Int)≤a ^ k by omega) (Int.le_of_lt h1)
 omega
def Fra (B:Nat)(x:Int×Int):Prop:=0≤x.1∧0<x.2∧x.1<2 ^ B∧x.2<2 ^ B
theorem Fra.mono {B C:Nat}{x:Int×Int}(h:Fra B x)(hBC:B≤C):Fra C x:=by
 have:=pow_mono (a:=2) (by decide) hBC
 obtain⟨a,b,c,d⟩:=h
 exact⟨a,b,by omega,by omega⟩
section
variable {ws:List Int}(h:SrcOk ws)
include h
def acc (ws:List Int)(l:List Nat)(S:Int):Int×Int:=low (up ws l*S) (dn ws l*ws.sum)
end
section
variable {a b c d e f:Int}(hb:0<b)(hd:0<d)(hf:0<f)
include hb
end
end My
namespace My
def rising (ps:List (List Nat)):Bool:=(ps.zip ps.tail).all fun x=>decide (x.1<x.2)
def isInner (ps:List (List Nat))(x:List Nat):Bool:=ps.any fun p=>x.isPrefixOf p && !decide (p=x)
def isApart (ps:List (List Nat))(x:List Nat):Bool:=!(ps.any fun p=>x.isPrefixOf p || p.isPrefixOf x)
def zN (m:Nat)(xs:List (List Nat)):List (List Nat):=xs.flatMap fun x=>(abcd.take m).map fun c=>x++[c]
def firstPair (ps:List (List Nat)):Option (List Nat×List Nat):=(ps.zip ps.tail).find? fun x=>x.1.isPrefixOf x.2
def fta (m:Nat)(ps:List (List Nat)):Nat→List (List Nat)→Option (List Nat)
 | 0,_=>none
 | n+1,inner=>if inner=[] then none else match (zN m inner).find? (isApart ps) with
  | some x=>some x
  | none=>fta m ps n ((zN m inner).filter (isInner ps))
def firstText (m:Nat)(ps:List (List Nat)):Option (List Nat):=fta m ps 32 [[]]
def isBook (m:Nat)(ps:List (List Nat)):Bool:=rising ps&&(firstPair ps).isNone&&(firstText m ps).isNone
theorem goneOn_mem {m:Nat}{xs:List (List Nat)}{y:List Nat}(h:y∈zN m xs):∃x∈xs,∃c∈abcd.take m,y=x++[c]:=by
 unfold zN at h
 obtain⟨x,hx,hy⟩:=List.mem_flatMap.mp h
 obtain⟨c,hc,rfl⟩:=List.mem_map.mp hy
 exact⟨x,hx,c,hc,rfl⟩
theorem inner_len {ps:List (List Nat)}{x:List Nat}(h:isInner ps x=true)(h8:∀p∈ps,p.length≤31):x.length<31:=by
 unfold isInner at h
 obtain⟨p,hp,e⟩:=List.any_eq_true.mp h
 rw[Bool.and_eq_true] at e
 obtain⟨s,rfl⟩:=List.isPrefixOf_iff_prefix.mp e.1
 have hs:s≠[]:=fun z=>by subst z;simp at e
 have:=h8 _ hp
 rw[List.length_append] at this
 have:=List.length_pos_iff.mpr hs
 omega
def addK (ks:List (List Nat))(k:List Nat):List (List Nat):=if k∈ks then ks else ks++[k]
def begs (p:List Nat):List (List Nat):=(List.range p.length).map fun e=>p.take e
def z6 (ps:List (List Nat)):List (List Nat):=(ps.flatMap begs).foldl addK []
def sortF (ls:List (List Nat)):List (List Nat):=ls.mergeSort fun a b=>!decide (b<a)
theorem sortF_srt (ls:List (List Nat)):(sortF ls).Pairwise (·≤·):=by
 have h:=List.pairwise_mergeSort (le:=fun a b:List Nat=>!decide (b<a)) (fun a b c h1 h2=>by
  have h1':a≤b:=List.not_lt.mp (by simpa using h1)
  have h2':b≤c:=List.not_lt.mp (by simpa using h2)
  have h3:¬c<a:=List.not_lt.mpr (List.le_trans h1' h2')
  simpa using h3) (fun a b=>by
  rcases List.le_total a b with h|h
  ·have:=List.not_lt.mpr h
   simp[this]
  ·have:=List.not_lt.mpr h
   simp[this]) ls
 exact h.imp fun h=>List.not_lt.mp (by simpa using h)
theorem sortF_perm (ls:List (List Nat)):(sortF ls).Perm ls:=List.mergeSort_perm ls _
theorem sortF_eq {ls ms:List (List Nat)}(h:ms.Pairwise (·≤·))(p:ms.Perm ls):ms=sortF ls:=List.Perm.eq_of_pairwise (fun _ _ _ _ h k=>List.le_antisymm h k) h (sortF_srt ls) (p.trans (sortF_perm ls).symm)
structure Book (m:Nat)(B:List (List Nat)):Prop where
 m2:2≤m
 m4:m≤4
 let_:∀p∈B,LetOk m p
 ne:∀p∈B,p≠[]
 pf:∀p∈B,∀q∈B,p <+: q→p=q
 cv:∀x,LetOk m x→∃p∈B,p <+: x∨x <+: p
 srt:B.Pairwise (·≤·)
 nd:B.Nodup
theorem abcd_let {m c:Nat}(h:c∈abcd.take m):97≤c∧c<97+m:=by
 obtain⟨i,hi,rfl⟩:=List.mem_iff_getElem.mp h
 have h1:i<m:=by rw[List.length_take] at hi;omega
 have h2:i<4:=by rw[List.length_take] at hi;have:abcd.length=4:=rfl;omega
 rw[List.getElem_take]
 have:i=0∨i=1∨i=2∨i=3:=by omega
 rcases this with rfl|rfl|rfl|rfl
 ·show 97≤97∧97<_;omega
 ·show 97≤98∧98<_;omega
 ·show 97≤99∧99<_;omega
 ·show 97≤100∧100<_;omega
theorem let_abcd {m c:Nat}(hm:m≤4)(h:97≤c∧c<97+m):c∈abcd.take m:=by
 have:m=0∨m=1∨m=2∨m=3∨m=4:=by omega
 have:c=97∨c=98∨c=99∨c=100:=by omega
 rcases this with rfl|rfl|rfl|rfl <;>rcases(by assumption:m=0∨_) with rfl|rfl|rfl|rfl|rfl <;>first|decide|omega
theorem abcd_nd (m:Nat):(abcd.take m).Nodup:=List.Sublist.nodup (List.take_sublist _ _) (by decide)
theorem LetOk.one {m c:Nat}(h:c∈abcd.take m):LetOk m [c]:=fun d hd=>by rw[List.mem_singleton.mp hd];exact abcd_let h
theorem LetOk.pre {m:Nat}{x y:List Nat}(h:LetOk m y)(p:x <+: y):LetOk m x:=fun c hc=>h c (p.subset hc)
theorem not_apart {m:Nat}{B:List (List Nat)}(h:Book m B){x:List Nat}(hx:LetOk m x):isApart B x=false:=by
 obtain⟨p,hp,e⟩:=h.cv x hx
 unfold isApart
 rw[Bool.not_eq_false',List.any_eq_true]
 refine⟨p,hp,?_⟩
 rw[Bool.or_eq_true,List.isPrefixOf_iff_prefix,List.isPrefixOf_iff_prefix]
 exact e.symm
theorem goneOn_let {m:Nat}{xs:List (List Nat)}(h:∀x∈xs,LetOk m x):∀y∈zN m xs,LetOk m y:=fun y hy=>by
 obtain⟨x,hx,c,hc,rfl⟩:=goneOn_mem hy
 exact(h x hx).app (LetOk.one hc)
theorem fta_none {m:Nat}{B:List (List Nat)}(h:Book m B):∀(n:Nat) (xs:List (List Nat)),(∀x∈xs,LetOk m x)→fta m B n xs=none
 | 0,_,_=>rfl
 | n+1,xs,hx=>by
  unfold fta
  split
  ·rfl
  ·have hg:=goneOn_let hx
   have e:(zN m xs).find? (isApart B)=none:=List.find?_eq_none.mpr fun x hx=>by rw[not_apart h (hg x hx)];exact Bool.false_ne_true
   rw[e]
   exact fta_none h n _ fun x hx=>hg x (List.mem_filter.mp hx).1
theorem firstText_none {m:Nat}{B:List (List Nat)}(h:Book m B):firstText m B=none:=fta_none h 32 [[]] fun x hx=>by
 rw[List.mem_singleton.mp hx]
 intro c hc
 cases hc
theorem zip_tail_mem {α:Type}:∀{l:List α}{x:α×α},x∈l.zip l.tail→x.1∈l∧x.2∈l:=fun {l x} h=>⟨(List.of_mem_zip h).1,List.mem_of_mem_tail (List.of_mem_zip h).2⟩
theorem zip_tail_pair {α:Type}{R:α→α→Prop}:∀{l:List α},l.Pairwise R→∀x∈l.zip l.tail,R x.1 x.2
 | [],_,x,h=>by cases h
 | [_],_,x,h=>by cases h
 | a::b::r,p,x,h=>by
  have h':x∈(a,b)::(b::r).zip r:=h
  rcases List.mem_cons.mp h' with rfl|h'
  ·exact List.rel_of_pairwise_cons p List.mem_cons_self
  ·exact zip_tail_pair (l:=b::r) (List.pairwise_cons.mp p).2 x h'
theorem strict {B:List (List Nat)}(s:B.Pairwise (·≤·))(n:B.Nodup):B.Pairwise (· < ·):=by
 have:=List.Pairwise.and s n
 exact this.imp fun⟨h,k⟩=>Classical.byContradiction fun hn=>k (List.le_antisymm h (List.not_lt.mp hn))
theorem firstPair_none {m:Nat}{B:List (List Nat)}(h:Book m B):firstPair B=none:=by
 refine List.find?_eq_none.mpr fun x hx=>?_
 intro e
 have hm:=zip_tail_mem hx
 have:=h.pf _ hm.1 _ hm.2 (List.isPrefixOf_iff_prefix.mp e)
 have lt:=zip_tail_pair (strict h.srt h.nd) x hx
 rw[this] at lt
 exact List.lt_irrefl _ lt
theorem rising_of {m:Nat}{B:List (List Nat)}(h:Book m B):rising B=true:=by
 unfold rising
 rw[List.all_eq_true]
 exact fun x hx=>decide_eq_true (zip_tail_pair (strict h.srt h.nd) x hx)
theorem Book.isBook {m:Nat}{B:List (List Nat)}(h:Book m B):isBook m B=true:=by
 unfold My.isBook
 rw[rising_of h,firstPair_none h,firstText_none h]
 rfl
def kids (m:Nat)(p:List Nat):List (List Nat):=(abcd.take m).map fun c=>p++[c]
theorem kids_mem {m:Nat}{p x:List Nat}:x∈kids m p↔∃c∈abcd.take m,x=p++[c]:=by
 unfold kids
 rw[List.mem_map]
 exact⟨fun⟨c,h,e⟩=>⟨c,h,e.symm⟩,fun⟨c,h,e⟩=>⟨c,h,e.symm⟩⟩
theorem kids_nd (m:Nat)(p:List Nat):(kids m p).Nodup:=by
 unfold kids
 rw[List.nodup_iff_pairwise_ne,List.pairwise_map]
 refine(abcd_nd m).imp fun h e=>h ?_
 exact List.singleton_inj.mp (List.append_cancel_left e)
theorem kids_len (m:Nat)(hm:m≤4)(p:List Nat):(kids m p).length=m:=by
 unfold kids
 rw[List.length_map,List.length_take]
 show min m 4=m
 omega
theorem cv_of {m:Nat}(hm:2≤m){B:List (List Nat)}{p:List Nat}(hp:∀x∈kids m p,x∈B){x:List Nat}(hx:LetOk m x)(m4:m≤4)(h:p <+: x∨x <+: p):∃q∈B,q <+: x∨x <+: q:=by
 have h97:97∈abcd.take m:=let_abcd m4 (by omega)
 rcases h with⟨s,rfl⟩|h
 ·cases s with
  | nil=>exact⟨p++[97],hp _ (kids_mem.mpr ⟨97,h97,rfl⟩),.inr (by rw[List.append_nil];exact List.prefix_append _ _)⟩
  | cons c r =>
   have hc:=hx c (by simp)
   exact⟨p++[c],hp _ (kids_mem.mpr ⟨c,let_abcd m4 hc,rfl⟩),.inl ⟨r,by simp⟩⟩
 ·exact⟨p++[97],hp _ (kids_mem.mpr ⟨97,h97,rfl⟩),.inr (h.trans (List.prefix_append _ _))⟩
theorem ne_snoc (p:List Nat)(c:Nat):p++[c]≠p:=fun e=>by have:=congrArg List.length e;simp at this
def part (m:Nat)(B:List (List Nat))(j:Nat):List (List Nat):=sortF (B.eraseIdx j++kids m (B.getD j []))
theorem part_mem {m:Nat}{B:List (List Nat)}(hn:B.Nodup){j:Nat}(hj:j<B.length){x:List Nat}:x∈part m B j↔(x∈B∧x≠B.getD j [])∨x∈kids m (B.getD j []):=by
 unfold part
 rw[(sortF_perm _).mem_iff,List.mem_append]
 have e:B.getD j []=B[j]:=by rw[List.getD_eq_getElem?_getD,List.getElem?_eq_getElem hj];rfl
 have:x∈B.eraseIdx j↔x∈B∧x≠B.getD j []:=by
  rw[List.mem_eraseIdx_iff_getElem,e]
  constructor
  ·rintro⟨i,hi,hij,rfl⟩
   exact⟨List.getElem_mem hi,fun z=>hij ((List.getElem_inj hn).mp z)⟩
  ·rintro⟨hx,hne⟩
   obtain⟨i,hi,rfl⟩:=List.mem_iff_getElem.mp hx
   exact⟨i,hi,fun z=>hne (by subst z;rfl),rfl⟩
 rw[this]
theorem Book.part {m:Nat}{B:List (List Nat)}(h:Book m B){j:Nat}(hj:j<B.length):Book m (part m B j):=by
 have hpm:B.getD j []∈B:=by rw[List.getD_eq_getElem?_getD,List.getElem?_eq_getElem hj];exact List.getElem_mem hj
 have mem:=fun x=>part_mem (m:=m) h.nd hj (x:=x)
 have hsr:(My.part m B j).Pairwise (·≤·):=sortF_srt _
 have hnd:(My.part m B j).Nodup:=by
  unfold My.part
  refine(sortF_perm _).nodup_iff.mpr (List.nodup_append.mpr ⟨h.nd.eraseIdx j,kids_nd _ _,?_⟩)
  rintro a ha b hb rfl
  have haB:a∈B:=List.mem_of_mem_eraseIdx ha
  obtain⟨c,hc,rfl⟩:=kids_mem.mp hb
  have:=h.pf _ hpm _ haB (List.prefix_append _ _)
  exact ne_snoc _ _ this.symm
 generalize My.part m B j=C at mem hsr hnd
 generalize B.getD j []=p at mem hpm
 refine⟨h.m2,h.m4,fun x hx=>?_,fun x hx=>?_,fun x hx y hy hxy=>?_,fun x hx=>?_,hsr,hnd⟩
 ·rcases (mem x).mp hx with⟨hx,_⟩|hx
  ·exact h.let_ x hx
  ·obtain⟨c,hc,rfl⟩:=kids_mem.mp hx
   exact(h.let_ _ hpm).app (LetOk.one hc)
 ·rcases (mem x).mp hx with⟨hx,_⟩|hx
  ·exact h.ne x hx
  ·obtain⟨c,hc,rfl⟩:=kids_mem.mp hx
   simp
 ·rcases (mem x).mp hx with⟨hx,nx⟩|hx <;>rcases(mem y).mp hy with⟨hy,ny⟩|hy
  ·exact h.pf x hx y hy hxy
  ·obtain⟨c,hc,rfl⟩:=kids_mem.mp hy
   rcases List.prefix_concat_iff.mp hxy with e|e
   ·exact e
   ·exact absurd (h.pf x hx p hpm e) nx
  ·obtain⟨c,hc,rfl⟩:=kids_mem.mp hx
   exact absurd (h.pf p hpm y hy ((List.prefix_append _ _).trans hxy)).symm ny
  ·obtain⟨c,hc,rfl⟩:=kids_mem.mp hx
   obtain⟨d,hd,rfl⟩:=kids_mem.mp hy
   exact hxy.eq_of_length (by simp)
 ·obtain ⟨q,hq,e⟩:=h.cv x hx
  by_cases hqp:q=p
  ·subst hqp
   exact cv_of h.m2 (fun z hz=>(mem z).mpr (.inr hz)) hx h.m4 e
  ·exact⟨q,(mem q).mpr (.inl ⟨hq,hqp⟩),e⟩
theorem Book.letters {m:Nat}(m2:2≤m)(m4:m≤4):Book m (kids m []):=by
 refine⟨m2,m4,fun x hx=>?_,fun x hx=>?_,fun x hx y hy hxy=>?_,fun x hx=>?_,?_,kids_nd m []⟩
 ·obtain⟨c,hc,rfl⟩:=kids_mem.mp hx
  exact LetOk.one hc
 ·obtain⟨c,hc,rfl⟩:=kids_mem.mp hx
  simp
 ·obtain⟨c,hc,rfl⟩:=kids_mem.mp hx
  obtain⟨d,hd,rfl⟩:=kids_mem.mp hy
  exact hxy.eq_of_length (by simp)
 ·exact cv_of m2 (fun z hz=>hz) hx m4 (.inl (List.nil_prefix))
 ·have:m=2∨m=3∨m=4:=by omega
  rcases this with rfl|rfl|rfl <;>decide
def Inner (B:List (List Nat))(x:List Nat):Prop:=∃p∈B,x <+: p∧x≠p
theorem foldl_addK (l:List (List Nat)):∀ks:List (List Nat),ks.Nodup→(l.foldl addK ks).Nodup∧∀x,x∈l.foldl addK ks↔x∈ks∨x∈l:=by
 induction l with
 | nil=>intro ks h;exact⟨h,fun x=>by simp⟩
 | cons k r ih =>
  intro ks h
  rw[List.foldl_cons]
  have h1:(addK ks k).Nodup∧∀x,x∈addK ks k↔x∈ks∨x=k:=by
   unfold addK
   split
   ·exact⟨h,fun x=>⟨.inl,fun z=>z.elim id fun e=>by rw[e];assumption⟩⟩
   ·rename_i hk
    refine⟨List.nodup_append.mpr ⟨h,by simp,?_⟩,fun x=>by simp⟩
    rintro a ha b hb rfl
    rw[List.mem_singleton.mp hb] at ha
    exact hk ha
  obtain⟨h2,h3⟩:=ih _ h1.1
  refine⟨h2,fun x=>?_⟩
  rw[h3,h1.2,List.mem_cons,or_assoc]
theorem begs_mem {p x:List Nat}:x∈begs p↔x <+: p∧x≠p:=by
 unfold begs
 rw[List.mem_map]
 constructor
 ·rintro⟨e,he,rfl⟩
  have he':=List.mem_range.mp he
  refine⟨List.take_prefix _ _,fun z=>?_⟩
  have:=congrArg List.length z
  rw[List.length_take] at this
  omega
 ·rintro⟨h,hn⟩
  refine⟨x.length,List.mem_range.mpr ?_,(List.prefix_iff_eq_take.mp h).symm⟩
  have h1:=h.length_le
  have:x.length≠p.length:=fun z=>hn (h.eq_of_length z)
  omega
theorem innerKeys_nd (B:List (List Nat)):(z6 B).Nodup:=(foldl_addK _ [] List.nodup_nil).1
theorem innerKeys_mem {B:List (List Nat)}{x:List Nat}:x∈z6 B↔Inner B x:=by
 unfold z6
 rw[(foldl_addK _ [] List.nodup_nil).2,List.mem_flatMap]
 simp only[List.not_mem_nil,false_or]
 exact⟨fun⟨p,hp,h⟩=>⟨p,hp,begs_mem.mp h⟩,fun⟨p,hp,h⟩=>⟨p,hp,begs_mem.mpr h⟩⟩
theorem inner_part {m:Nat}(m2:2≤m)(m4:m≤4){B:List (List Nat)}(hn:B.Nodup){j:Nat}(hj:j<B.length){x:List Nat}(h:Inner (part m B j) x):Inner B x∨x=B.getD j []:=by
 obtain⟨q,hq,hx,hne⟩:=h
 have hpm:B.getD j []∈B:=by rw[List.getD_eq_getElem?_getD,List.getElem?_eq_getElem hj];exact List.getElem_mem hj
 rcases(part_mem hn hj).mp hq with⟨hq,_⟩|hq
 ·exact .inl ⟨q,hq,hx,hne⟩
 ·obtain ⟨c,hc,rfl⟩:=kids_mem.mp hq
  rcases List.prefix_concat_iff.mp hx with e|e
  ·exact absurd e hne
  ·by_cases hp:x=B.getD j []
   ·exact .inr hp
   ·exact .inl ⟨_,hpm,e,hp⟩
theorem sortF_mem {ls:List (List Nat)}{x:List Nat}:x∈sortF ls↔x∈ls:=(sortF_perm ls).mem_iff
theorem part_len {m:Nat}(m4:m≤4){B:List (List Nat)}{j:Nat}(hj:j<B.length):(part m B j).length=B.length - 1+m:=by
 unfold part
 rw[(sortF_perm _).length_eq,List.length_append,kids_len m m4,List.length_eraseIdx,if_pos hj]
def Free (B:List (List Nat))(x:List Nat):Prop:=∀y,y <+: x→y≠[]→y∉B
theorem Book.free {m:Nat}{B:List (List Nat)}(h:Book m B){x:List Nat}(hx:Inner B x):Free B x:=fun y hy hn hyB=>by
 obtain⟨p,hp,hxp,hne⟩:=hx
 have e:=h.pf y hyB p hp (hy.trans hxp)
 subst e
 exact hne (List.IsPrefix.eq_of_length hxp (Nat.le_antisymm hxp.length_le hy.length_le))
inductive Gr (m:Nat):Nat→List (List Nat)→Prop
 | z:Gr m 0 (kids m [])
 | s {t:Nat}{B:List (List Nat)}{j:Nat}:Gr m t B→j<B.length→Gr m (t+1) (part m B j)
theorem Gr.book {m:Nat}(m2:2≤m)(m4:m≤4){t:Nat}{B:List (List Nat)}(h:Gr m t B):Book m B:=by
 induction h with
 | z=>exact Book.letters m2 m4
 | s _ hj ih=>exact ih.part hj
theorem Gr.len {m:Nat}(m2:2≤m)(m4:m≤4){t:Nat}{B:List (List Nat)}(h:Gr m t B):B.length=m+t*(m - 1):=by
 induction h with
 | z=>rw[kids_len m m4];omega
 | s _ hj ih =>
  rename_i B' t' _
  rw[part_len m4 hj,ih,Nat.add_mul]
  generalize _*(m - 1)=z
  omega
theorem Gr.short {m:Nat}(m2:2≤m)(m4:m≤4){t:Nat}{B:List (List Nat)}(h:Gr m t B):∀p∈B,p.length≤t+1:=by
 induction h with
 | z=>intro p hp;obtain⟨c,_,rfl⟩:=kids_mem.mp hp;simp
 | s g hj ih =>
  rename_i t' B' j
  intro p hp
  have hpm:B'.getD j []∈B':=by rw[List.getD_eq_getElem?_getD,List.getElem?_eq_getElem hj];exact List.getElem_mem hj
  rcases(part_mem (g.book m2 m4).nd hj).mp hp with⟨hp,_⟩|hp
  ·have:=ih p hp;omega
  ·obtain⟨c,_,rfl⟩:=kids_mem.mp hp
   have:=ih _ hpm
   rw[List.length_append]
   show _+1≤_
   omega
theorem Gr.inner {m:Nat}(m2:2≤m)(m4:m≤4){t:Nat}{B:List (List Nat)}(h:Gr m t B):∃L:List (List Nat),L.length=t+1∧∀x,Inner B x→x∈L:=by
 induction h with
 | z =>
  refine⟨[[]],rfl,fun x hq37=>?_⟩
  obtain⟨p,hp,hx,hn⟩:=hq37
  obtain⟨c,_,rfl⟩:=kids_mem.mp hp
  rcases List.prefix_concat_iff.mp hx with e|e
  ·exact absurd e hn
  ·rw[List.prefix_nil.mp e];simp
 | s g hj ih =>
  rename_i t' B' j
  obtain⟨L,h1,h2⟩:=ih
  refine⟨L++[B'.getD j []],by simp[h1],fun x hx=>?_⟩
  rcases inner_part m2 m4 (g.book m2 m4).nd hj hx with h|h
  ·exact List.mem_append_left _ (h2 x h)
  ·rw[h];simp
theorem Gr.keys {m:Nat}(m2:2≤m)(m4:m≤4){t:Nat}{B:List (List Nat)}(h:Gr m t B):(z6 B).length≤t+1:=by
 obtain⟨L,h1,h2⟩:=h.inner m2 m4
 rw[← h1]
 exact(innerKeys_nd B).length_le_of_subset fun x hx=>h2 x (innerKeys_mem.mp hx)
end My
namespace L2
open PySem PySem.Spec PyProof.Rows
section
variable {prog:Program}{w:World}{A:Around}{E:Value→Shared→Prop}{s:Shared}
theorem collect_tup {l:Addr}{vs:List Value}{Q:List Value→Shared→Prop}(hl:IsTup s.heap l vs.toArray)
  (h:Q vs {s with heap:=(s.heap.push (seqObj "list" #[] 0)).update s.heap.objs.size (Obj.mapSeq (· ++ vs.toArray))}) (hsz:vs.length≤sizeLine) :
  wpAny (model prog w) A (collect (.ref l)) Q E s:=by
 obtain⟨o,ho,hc,n,hd⟩:=id hl
 unfold collect
 refine wpAny_bind (wpAny_runValue (codeAny_builtin entry_proto_collect' ?_))
 show wpAny _ _ (do again (.builtin "list.__iadd__" ⟨[← newList [],.ref l],[]⟩)) _ _ s
 refine wpAny_bind (wpAny_newList (wpAny_pure ⟨Code.quiet_builtin _ (by decide +kernel),codeAny_builtin entry_list_iadd' ?_⟩))
 show wpAny _ _ (Builtin.List.listExtendWith (.ref s.heap.objs.size) (.ref l) (.ref s.heap.objs.size)) _ _ {s with heap:=s.heap.push (seqObj "list" #[] 0)}
 unfold Builtin.List.listExtendWith
 have ho':(s.heap.push (seqObj "list" #[] 0)).get? l=some o:=Heap.get?_push_of_some _ ho
 refine wpAny_bind (wpAny_typeOf (T := "tuple") ⟨o,ho',hc⟩ ?_)
 have ht:(Value.type "tuple" == Value.type "tuple")=true:=by rfl
 rw[if_pos (by rw[ht];simp)]
 refine wpAny_bind (listItems_at ho' hd ?_)
 refine wpAny_bind (listItems_at (xs:=#[]) (n:=0) (Heap.get?_push_size _ rfl) rfl ?_)
 rw[if_neg (by simp)]
 refine wpAny_bind (listUpdate_at (xs:=#[]) (n:=0) (Heap.get?_push_size _ rfl) rfl ?_ (Nat.zero_le _) (by show(#[]++vs.toArray).size≤sizeLine+1;simp only[Array.size_append,List.size_toArray,List.length_nil];omega))
 refine wpAny_pure ?_
 show wpAny (model prog w) A (do
   let o ← load s.heap.objs.size
   match o.data with
   | .seq xs _=>pure xs.toList
   | _=>unsupported "internal:collect") Q E {s with heap:=(s.heap.push (seqObj "list" #[] 0)).update s.heap.objs.size (Obj.mapSeq (· ++ vs.toArray))}
 refine wpAny_bind (wpAny_load (get?_update_seq (Heap.get?_push_size _ rfl) _) ?_)
 show wpAny _ _ (pure ((#[]:Array Value)++vs.toArray).toList) Q E _
 rw[show((#[]:Array Value)++vs.toArray).toList=vs by simp]
 exact wpAny_pure h
theorem sortedKT {κ:KeyKind}(hO:κ.OneLt){l:Addr}{vs:List Value}{Q:Value→Shared→Prop}(hl:IsTup s.heap l vs.toArray)(h0:KeysOf κ (pairsOf vs))(hkk:∀v₁ v₂ rest,vs=v₁::v₂::rest→keyKind' (v₁::v₂::rest).toArray=pure oneType')(h64:vs.length<64)
  (h:∀st':SortSt,(arrOf st').Perm (pairsOf vs)→SortedToK κ (arrOf st') (pairsOf vs).size→Q (.ref (s.heap.objs.size+1)) {s with heap:=sortedAll s.heap vs ((arrOf st').map (·.2))}) :
  wpAny (model prog w) A (call (.builtin "sorted") [.ref l]) Q E s:=by
 have hz:vs.length≤sizeLine:=by rw[sizeLine_eq];omega
 refine Calls.call_function_entry kind_sorted plain_sorted entry_sorted (args_sorted1 _) ?_
 unfold Builtin.«sorted»
 refine wpAny_bind (m:=checkCount "sorted" 1 1 _) (wpAny_pure ?_)
 refine wpAny_bind (collect_tup hl ?_ hz)
 refine wpAny_bind (wpAny_newList ?_)
 have hsz:((s.heap.push (seqObj "list" #[] 0)).update s.heap.objs.size (Obj.mapSeq (· ++ vs.toArray))).objs.size=s.heap.objs.size+1:=by
  rw[Heap.size_update,size_push']
 have hoL:(((s.heap.push (seqObj "list" #[] 0)).update s.heap.objs.size (Obj.mapSeq (· ++ vs.toArray))).push (seqObj "list" vs.toArray 0)).get? (s.heap.objs.size+1)=some (seqObj "list" vs.toArray 0):=by
  rw[← hsz];exact Heap.get?_push_size _ rfl
 show wpAny _ _ _ _ _ {s with heap:=((s.heap.push (seqObj "list" #[] 0)).update s.heap.objs.size (Obj.mapSeq (· ++ vs.toArray))).push (seqObj "list" vs.toArray 0)}
 rw[hsz]
 refine wpAny_bind (wpAny_holding (wpAny_call_entry slot_list_sort ⟨_,hoL,rfl⟩ entry_list_sort (list_sort_treeK hO hoL h0 hkk h64 fun st' a1 a2=>⟨_,rfl,?_⟩) (args_list_sort _)))
 exact wpAny_pure ⟨_,rfl,h st' a1 a2⟩
end
section
variable {X:Cx}
theorem call_sortedT:CallR X (.builtin "sorted") (fun xs H Q=>∃a ls,xs=[.ref a]∧SqT X.K H a (vT ls)∧ls.length<64∧∀p ms,H p=none→ms.Perm ls→Srt ms→Q (.ref p) (upd H p (.lst (vT ms)))):=by
 intro pins s σ H xs us Q I r h
 obtain⟨a,ls,rfl,ha,h64,q⟩:=h
 obtain⟨u,rfl,ru⟩:=vals1 r
 cases ru
 obtain⟨its,rv,pl,hz⟩:=I.tuple ha
 rw[vT_T] at rv
 have hl:=rv.length
 simp only[List.length_map] at hl
 have hS:=vals_strs rv
 refine sortedKT strKind_oneLt pl hS.keysOf (fun v₁ v₂ rest e=>keyKind_strs (by rw[← e];exact hS)) (by omega) fun st' hp hs=>?_
 obtain⟨ss',h1,h2,h3⟩:=sorted_out_str hS hp hs
 have hS:=srt_of h3
 have hP:(ss'.map fun x=>x.cps.toList).Perm ls:=by
  have:=h2.map fun x:Str=>x.cps.toList
  rw[List.map_map] at this
  have e:ls.map ((fun x:Str=>x.cps.toList)∘T)=ls:=by
   have:((fun x:Str=>x.cps.toList)∘T)=id:=funext fun l=>T_cps l
   rw[this,List.map_id]
  rw[e] at this
  exact this
 obtain⟨c,hat⟩:=sortedAll_at s.heap its ((arrOf st').map (·.2))
 have hlen:ss'.length=ls.length:=by have:=h2.length_eq;simpa using this
 refine⟨.ref (s.heap.objs.size+1),_,I.laid (t':=s.toks) (o:=.lst (vT (ss'.map fun x=>x.cps.toList))) (fun b o e=>sortedAll_old e) (Nat.le_succ _) ?_,rfl,q _ _ (I.hok.fresh (Nat.le_succ _)) hP hS⟩
 refine⟨?_,((arrOf st').map (·.2)).toList,c,?_,by rw[Array.toArray_toList];exact hat⟩
 ·rw[← vT_str,List.length_map,sizeLine_eq];omega
 ·rw[← vT_str];exact strs_vals h1
end
end L2
namespace My
theorem inner_iff {ps:List (List Nat)}{x:List Nat}:isInner ps x=true↔Inner ps x:=by
 unfold isInner Inner
 rw[List.any_eq_true]
 constructor
 ·rintro⟨p,hp,e⟩
  rw[Bool.and_eq_true,List.isPrefixOf_iff_prefix,Bool.not_eq_true',decide_eq_false_iff_not] at e
  exact⟨p,hp,e.1,fun z=>e.2 z.symm⟩
 ·rintro⟨p,hp,e,hn⟩
  refine⟨p,hp,?_⟩
  rw[Bool.and_eq_true,List.isPrefixOf_iff_prefix,Bool.not_eq_true',decide_eq_false_iff_not]
  exact⟨e,fun z=>hn z.symm⟩
theorem Book.nilInner {m:Nat}{B:List (List Nat)}(h:Book m B):Inner B []:=by
 obtain⟨p,hp,_⟩:=h.cv [] (fun c hc=>by cases hc)
 exact⟨p,hp,List.nil_prefix,fun z=>h.ne p hp z.symm⟩
theorem Book.innerLet {m:Nat}{B:List (List Nat)}(h:Book m B){x:List Nat}(hx:Inner B x):LetOk m x:=by
 obtain⟨p,hp,hxp,_⟩:=hx
 exact(h.let_ p hp).pre hxp
theorem Book.step {m:Nat}{B:List (List Nat)}(h:Book m B){x:List Nat}(hx:Inner B x){c:Nat}(hc:c∈abcd.take m):(Inner B (x++[c])∧x++[c]∉B)∨(¬Inner B (x++[c])∧x++[c]∈B):=by
 have hnot:Inner B (x++[c])→x++[c]∉B:=fun hi=>h.free hi _ (List.prefix_refl _) (by simp)
 by_cases hB:x++[c]∈B
 ·exact .inr ⟨fun hi=>hnot hi hB,hB⟩
 ·refine .inl ⟨?_,hB⟩
  obtain⟨q,hq,e⟩:=h.cv (x++[c]) ((h.innerLet hx).app (LetOk.one hc))
  rcases e with e|e
  ·rcases List.prefix_concat_iff.mp e with e|e
   ·exact absurd (e▸hq) hB
   ·exact absurd hq (h.free hx q e (h.ne q hq))
  ·exact⟨q,hq,e,fun z=>hB (z▸hq)⟩
theorem inner_part' {m:Nat}(m2:2≤m)(m4:m≤4){B:List (List Nat)}(hb:Book m B){j:Nat}(hj:j<B.length){x:List Nat}:Inner (part m B j) x↔Inner B x∨x=B.getD j []:=by
 have hpm:B.getD j []∈B:=by rw[List.getD_eq_getElem?_getD,List.getElem?_eq_getElem hj];exact List.getElem_mem hj
 have h97:97∈abcd.take m:=let_abcd m4 (by omega)
 have hk:B.getD j []++[97]∈part m B j:=(part_mem hb.nd hj).mpr (.inr (kids_mem.mpr ⟨97,h97,rfl⟩))
 refine⟨inner_part m2 m4 hb.nd hj,?_⟩
 rintro(⟨p,hp,hx,hne⟩|rfl)
 ·by_cases e:p=B.getD j []
  ·refine ⟨_,hk,?_,?_⟩
   ·rw[← e];exact hx.trans (List.prefix_append _ _)
   ·intro z
    have h1:=hx.length_le
    rw[z,← e] at h1
    simp at h1
    omega
  ·exact⟨p,(part_mem hb.nd hj).mpr (.inl ⟨hp,e⟩),hx,hne⟩
 ·exact⟨_,hk,List.prefix_append _ _,fun z=>ne_snoc _ _ z.symm⟩
theorem Gr.keysEq {m:Nat}(m2:2≤m)(m4:m≤4){t:Nat}{B:List (List Nat)}(h:Gr m t B):(z6 B).length=t+1:=by
 have key:∃L:List (List Nat),L.Nodup∧L.length=t+1∧∀x,Inner B x↔x∈L:=by
  induction h with
  | z =>
   refine⟨[[]],by simp,rfl,fun x=>⟨fun⟨p,hp,hx,hn⟩=>?_,fun hx=>?_⟩⟩
   ·obtain⟨c,_,rfl⟩:=kids_mem.mp hp
    rcases List.prefix_concat_iff.mp hx with e|e
    ·exact absurd e hn
    ·rw[List.prefix_nil.mp e];simp
   ·rw[List.mem_singleton.mp hx]
    exact(Book.letters m2 m4).nilInner
  | s g hj ih =>
   rename_i t' B' j
   obtain⟨L,h0,h1,h2⟩:=ih
   have hb:=g.book m2 m4
   have hpm:B'.getD j []∈B':=by rw[List.getD_eq_getElem?_getD,List.getElem?_eq_getElem hj];exact List.getElem_mem hj
   refine⟨L++[B'.getD j []],List.nodup_append.mpr ⟨h0,by simp,?_⟩,by simp[h1],fun x=>?_⟩
   ·rintro a ha b hb' rfl
    rw[List.mem_singleton.mp hb'] at ha
    exact hb.free ((h2 _).mpr ha) _ (List.prefix_refl _) (hb.ne _ hpm) hpm
   ·rw[inner_part' m2 m4 hb hj,h2,List.mem_append,List.mem_singleton]
 obtain⟨L,h0,h1,h2⟩:=key
 rw[← h1]
 refine Nat.le_antisymm ((innerKeys_nd B).length_le_of_subset fun x hx=>(h2 x).mp (innerKeys_mem.mp hx)) (h0.length_le_of_subset fun x hx=>innerKeys_mem.mpr ((h2 x).mpr hx))
end My
namespace L2
open PySem PySem.Spec PyProof.Rows
def Flown (P:Program)(w:World)(outer:List Env)(H:Hp)(s:Shared)(E:XK)(e:Value)(s':Shared):Prop :=
 ∃ (a C:Addr) (a0:Value) (H':Hp) (B:Heap),e=.ref a∧s'.os=s.os∧AllBare s'.gens ∧
  (∀b o,s.heap.get? b=some o→b∉frs outer→∃o',B.get? b=some o'∧(H b=none→o'=o)) ∧
  (∀b o,s.heap.get? b=some o→b∈frs outer→∃sl,s'.heap.get? b=some {o with slots:=sl}) ∧
  (∀b o,s.heap.get? b=some o→H b=none→H' b=none) ∧
  (∀b xs,H b=some (.tup xs)→H' b=some (.tup xs))∧(∀b o u,H b=some (.frz o u)→H' b=some (.frz o u))∧(∀b ps,H b=some (.tbl ps)→∃more,H' b=some (.tbl (ps++more))) ∧
  HOk P w H' B∧Heap.FlyingW B outer a (.ref C) a0 s'.heap∧E (.ref C) none H'
abbrev CX1 (P:Program)(w:World):CXT:=Flown P w
theorem frs_cons {env:Env}{outer:List Env}{L:Addr}(hf:env.frame=some L):frs (env::outer)=L::frs outer:=by
 unfold frs
 rw[List.filterMap_cons,hf]
theorem hok_hide {P:Program}{w:World}{H:Hp}{h:Heap}{l:List Addr}(ok:HOk P w H h)(hl:∀b∈l,H b=none):HOk P w H (PySem.W.hideAll h l):=fun b o e =>
 (ok b o e).stay (fun c u hc q=>PySem.W.hideAll_get l q fun z=>by
  rcases hc with rfl|hc
  ·rw[hl _ z] at e;cases e
  ·rw[hl _ z] at hc;cases hc) (fun _ q=>q) fun _ _ q=>q
section
variable {X:Cx}{pins:List (Addr×Obj)}{σ:St}{H:Hp}{s:Shared}{M:Model}{F:Value→Shared→Prop}{E:XK}
theorem Inv.fr0 (I:Inv X pins σ H s){b:Addr}(hb:b∈X.fs):X.H₀ b=none∧b∉X.ex:=⟨I.ok.frf b hb,fun z=>I.ok.exfs b z hb⟩
theorem fly_raise (I:Inv X pins σ H s)(hst:X.stack=X.env::X.outer)(hfr:X.env.frame=some X.env.locals)(hex:X.ex=[]){e C:Addr}{args:List Value}{h':Heap}
  (hx:Heap.MadeExcOf s.heap h' e (.ref C) args) (hE:E (.ref C) none H) :
  wpAny M X.A (leaving X.env (.ref e)) (fun _ s''=>Flown X.prog X.w X.outer X.H₀ X.s₀ E (.ref e) s'') F {s with heap:=h'}:=by
 have hin:∀env∈X.stack,∀b,env.frame=some b→b∈frs X.stack:=fun env he b hb=>List.mem_filterMap.mpr ⟨env,he,hb⟩
 have hstk:frs X.stack=X.env.locals::frs X.outer:=by rw[hst];exact frs_cons hfr
 have nex:∀b:Addr,b∉X.ex:=fun b z=>by rw[hex] at z;cases z
 refine wpAny_leaves_madeW (base:=PySem.W.hideAll s.heap (frs X.stack)) (h:=s.heap) (outer:=X.outer) (I.ok.frames.trans (by rw[hst])) hfr (fun b o q=>PySem.W.of_hideAll _ q) (by rw[← hst];exact PySem.W.funFrames_hide I.stack hin) hx fun h2 t x1 x2 x3 x4=>?_
 refine⟨e,C,.ref t,H,PySem.W.hideAll s.heap (frs X.stack),rfl,I.os,I.bare,fun b o q hb=>?_,fun b o q hb=>?_,fun b o q n=>I.base.free b o q n (nex b),I.base.tups,I.base.frzs,I.base.tbls,hok_hide I.hok I.stkFree,x1,hE⟩
 ·obtain ⟨o1,e1⟩:=I.base.there b o q (nex b)
  refine⟨o1,PySem.W.hideAll_get _ e1 fun z=>?_,fun n=>?_⟩
  ·rw[hstk] at z
   rcases List.mem_cons.mp z with z|z
   ·exact absurd (Heap.lt_size q) (Nat.not_lt.mpr (z▸I.ok.above))
   ·exact hb z
  ·have:=I.base.keep b o q n hb (nex b)
   rw[e1] at this
   exact Option.some.inj this
 ·obtain ⟨sl,e1⟩:=I.base.slot b o q (I.fr0 hb).1 hb (nex b)
  have hb2:b∈X.stack.filterMap (·.frame):=by
   show b∈frs X.stack
   rw[hstk]
   exact List.mem_cons_of_mem _ hb
  obtain⟨_,o2,e2,nf⟩:=I.stack.mem hb2
  rw[e1] at e2
  obtain rfl:=Option.some.inj e2
  obtain⟨sl2,e3⟩:=x4 b _ (hx.keeps b _ e1) nf
  exact⟨sl2,e3⟩
theorem fly_pass (I:Inv X pins σ H s)(hst:X.stack=X.env::X.outer)(hfr:X.env.frame=some X.env.locals)(hex:X.ex=[]){e:Value}{s':Shared}(hf:Flown X.prog X.w X.stack H s E e s') :
  wpAny M X.A (leaving X.env e) (fun _ s''=>Flown X.prog X.w X.outer X.H₀ X.s₀ E e s'') F s':=by
 have hstk:frs X.stack=X.env.locals::frs X.outer:=by rw[hst];exact frs_cons hfr
 have nex:∀b:Addr,b∉X.ex:=fun b z=>by rw[hex] at z;cases z
 obtain⟨a,C,a0,H',B,rfl,hos,hbare,h1,h2,h3,h4,h5,h6,hok,fly,hE⟩:=hf
 have fly':Heap.FlyingW B (X.env::X.outer) a (.ref C) a0 s'.heap:=by rw[← hst];exact fly
 refine wpAny_leaves_onW (I.ok.frames.trans (by rw[hst])) hfr fly' fun h2' x1 x2=>?_
 refine⟨a,C,a0,H',B,rfl,hos.trans I.os,hbare,fun b o q hb=>?_,fun b o q hb=>?_,fun b o q n=>?_,fun b xs q=>h4 b xs (I.base.tups b xs q),fun b o u q=>h5 b o u (I.base.frzs b o u q),fun b ps q=>?_,hok,x1,hE⟩
 ·obtain ⟨o1,e1⟩:=I.base.there b o q (nex b)
  have hbs:b∉frs X.stack:=fun z=>by
   rw[hstk] at z
   rcases List.mem_cons.mp z with z|z
   ·exact absurd (Heap.lt_size q) (Nat.not_lt.mpr (z▸I.ok.above))
   ·exact hb z
  obtain⟨o2,e2,k2⟩:=h1 b o1 e1 hbs
  refine⟨o2,e2,fun n=>?_⟩
  have e3:=I.base.keep b o q n hb (nex b)
  rw[e1] at e3
  rw[k2 (I.base.free b o q n (nex b))]
  exact Option.some.inj e3
 ·obtain⟨sl,e1⟩:=I.base.slot b o q (I.fr0 hb).1 hb (nex b)
  have hb2:b∈frs X.stack:=by rw[hstk];exact List.mem_cons_of_mem _ hb
  obtain⟨sl2,e2⟩:=h2 b _ e1 hb2
  obtain⟨_,o3,e3,nf⟩:=fly.2.2.1.mem hb2
  rw[e2] at e3
  obtain rfl:=Option.some.inj e3
  obtain⟨sl3,e4⟩:=x2 b _ e2 nf
  exact⟨sl3,e4⟩
 ·obtain⟨o1,e1⟩:=I.base.there b o q (nex b)
  exact h3 b o1 e1 (I.base.free b o q n (nex b))
 ·obtain⟨m1,e1⟩:=I.base.tbls b ps q
  obtain⟨m2,e2⟩:=h6 b _ e1
  exact⟨m1++m2,by rw[e2,Array.append_assoc]⟩
end
theorem yw {P:Program}{w:World}{K:PySem.W.Frag}{mg:Str→Option Value}{base:Heap}{N:List Str}{qual:Str}{scope:Scope}{f:Addr}{cd:Value}{A:Around}{outer:List Env}{s:Shared}{H:Hp}{E:XK} :
  Passes (CX1 P w) (cxOf (CX1 P w) P w K mg base N qual scope f cd A outer s H E) E:=fun pins σ H' s' e s'' I hf=>fly_pass I rfl rfl rfl hf
theorem Fun.okX {P:Program}{w:World}{K:PySem.W.Frag}{mg:Str→Option Value}{base:Heap}{x qual:Str}{st:Stmt}{f:Addr}{fd:FuncData}{N ps:List Str}{k:Nat}{sp:Sp}(F:Fun K x qual st f fd)(S:FnScope N ps (zu st))(len:∀vs H Q E,sp vs H Q E→vs.length=ps.length)
  (hbody:∀(cdv:Value) (A:Around) (outer:List Env) (s:Shared) (H:Hp) (vs:List V) (Q:VK) (E:XK),Room k (A.deeper (envOfC qual (zu st) s.heap.objs.size f cdv))→sp vs H Q E →
   ∃t,PSs (cxOf (CX1 P w) P w K mg base N qual (zu st) f cdv A outer s H E) (defBody st) t∧t {nx:=fun _ H'=>Q .non H',rt:=Q} (start N vs) H):FnOk P w K mg base (CX1 P w) (k+1) f fd ps sp:=by
 obtain⟨oc,od,kV,doc,pm,an,cdv,ct,osl,rfl,lk,hcd⟩:=F.ex
 exact fn_of lk hcd S len fun A outer s H vs Q E hr hsp=>hbody cdv A outer s H vs Q E hr hsp
theorem PS.nox {X:Cx}{st:Stmt}{t:TS}(h:PS X.nox st t):PS X st t:=fun pins s σ H D I hw =>
 wpAny_mono (h pins s σ H D (I.wish _) hw) (fun _ _ q=>q.unwish) fun _ _ z=>False.elim z
theorem PA.nox {X:Cx}{es:List Expr}{t:TA}(h:PA X.nox es t):PA X es t:=fun pos pins s σ H Q I hw =>
 wpAny_mono (h pos pins s σ H Q (I.wish _) hw) (fun _ _ ⟨v,H',I',r,q⟩=>⟨v,H',I'.unwish,r,q⟩) fun _ _ z=>False.elim z
structure Own (K:PySem.W.Frag)(mg:Str→Option Value)(x:Str) where
 C:Addr
 mgx:mg x=some (.ref C)
 exc:PySem.W.excIn K C [.type "ValueError", .type "Exception", .type "BaseException", .type "object"] "ValueError.__new__" = true
inductive ExcD (o:Option Obj)(A:Option Addr→ClassData→Array (Option Value)→Bool):Prop
 | mk (dd:Option Addr) (cd:ClassData) (sl:Array (Option Value)) (e:o=some ⟨.type "type", dd,.cls cd,sl⟩) (q:A dd cd sl=true)
inductive ExcR (x:List Value)(y:List (Option Value))(A:Addr→List Value→Option Value→Option Value→Option Value→Option Value→String→Option Value→Bool):Prop
 | mk (C':Addr) (bm:List Value) (k0 k1 k2 k3:Option Value) (n:String) (k5:Option Value) (e:x=.ref C'::bm) (f:y=[k0,k1,k2,k3,some (.builtin n),k5]) (q:A C' bm k0 k1 k2 k3 n k5=true)
inductive ExcO (h:Heap)(C:Addr)(bmB:List Value)(newId:String):Prop
 | mk (bm:List Value) (N:Addr) (nm qn:Str) (bs:List Value) (hdct:Bool) (sn:List Str) (sub:List Value) (ab:Bool) (col:Option Bool) (dd:Option Addr) (k0 k1 k2 k3 k5:Option Value) (mN:Str→Option Value)
   (hC:h.get? C=some (excClassObj nm qn C N bs bm hdct sn sub ab col dd k0 k1 k2 k3 k5 newId)) (hN:h.Ns N mN) (hni:mN "__init__" = none) (T:OwnTail h bmB bm)
theorem exc_m6 {o:Option Obj}{A:Option Addr→ClassData→Array (Option Value)→Bool}(q:PySem.W.excIn.match_6 (fun _=>Bool) o A (fun _=>false)=true):ExcD o A:=by
 rcases o with _|⟨c,dd,da,sl⟩
 ·exact absurd q Bool.false_ne_true
 ·cases c
  all_goals first|exact absurd q Bool.false_ne_true|skip
  rename_i s
  by_cases hs:s = "type"
  ·subst hs
   cases da
   all_goals first|exact absurd q Bool.false_ne_true|exact⟨_,_,_,rfl,q⟩
  ·delta PySem.W.excIn.match_6 at q
   exact absurd ((dif_neg hs).symm.trans q) Bool.false_ne_true
theorem exc_m1 {x:List Value}{y:List (Option Value)}{A:Addr→List Value→Option Value→Option Value→Option Value→Option Value→String→Option Value→Bool}(q:PySem.W.excIn.match_1 (fun _ _=>Bool) x y A (fun _ _=>false)=true):ExcR x y A:=by
 rcases x with _|⟨v,bm⟩
 ·exact absurd q Bool.false_ne_true
 cases v
 all_goals first|exact absurd q Bool.false_ne_true|skip
 rcases y with _|⟨k0,_|⟨k1,_|⟨k2,_|⟨k3,_|⟨k4,y⟩⟩⟩⟩⟩
 all_goals first|exact absurd q Bool.false_ne_true|skip
 rcases k4 with _|k4
 ·exact absurd q Bool.false_ne_true
 cases k4
 all_goals first|exact absurd q Bool.false_ne_true|skip
 rcases y with _|⟨k5,_|⟨k6,y⟩⟩
 all_goals first|exact absurd q Bool.false_ne_true|exact⟨_,_,_,_,_,_,_,_,rfl,rfl,q⟩
theorem exc_obj {K:PySem.W.Frag}{h:Heap}{C:Addr}{bmB:List Value}{newId:String}(X:K.In h)(q:PySem.W.excIn K C bmB newId=true):ExcO h C bmB newId:=by
 obtain⟨dd,cd,sl,ho,q⟩:=exc_m6 q
 obtain⟨C',bm,k0,k1,k2,k3,n,k5,hm,hs,q⟩:=exc_m1 q
 simp only[Bool.and_eq_true,beq_iff_eq,Bool.not_eq_true'] at q
 obtain⟨⟨⟨⟨⟨rfl,rfl⟩,hdel⟩,ht⟩,hok⟩,hni⟩:=q
 obtain⟨nm,bs,mro,ns,qn,hd,sn,sub,ab,col,del⟩:=cd
 obtain⟨l⟩:=sl
 dsimp only at hm hdel hok hni hs
 subst hm hdel hs
 exact⟨bm,ns,nm,qn,bs,hd,sn,sub,ab,col,dd,k0,k1,k2,k3,k5,_,X _ _ ho,.of_isNs (PySem.W.isNs_of_in X hok),PySem.W.nsMap_none_of_in X hok hni,PySem.W.tail_of_in X ht⟩
def tRaise (C:Addr)(E:XK)(t:TA):TS:=fun _ σ H=>t σ H fun vs H1=>vs.length≤3∧E (.ref C) none H1
section
variable {P:Program}{w:World}{K:PySem.W.Frag}{mg:Str→Option Value}{base:Heap}{N:List Str}{qual:Str}{scope:Scope}{f:Addr}{cd:Value}{A:Around}{outer:List Env}{s₁:Shared}{H₁:Hp}{E:XK}
theorem ps_raise {x:Str}{e₀:Expr}{rest:List Expr}{np cpos pos:Pos}{t:TA}(O:Own K mg x)(hg:Gl (cxOf (CX1 P w) P w K mg base N qual scope f cd A outer s₁ H₁ E) x)
  (ha:PA (cxOf (CX1 P w) P w K mg base N qual scope f cd A outer s₁ H₁ E) (e₀::rest) t)
  (he:starEach (e₀::rest) (cxOf (CX1 P w) P w K mg base N qual scope f cd A outer s₁ H₁ E).env=(false,eval e₀ (cxOf (CX1 P w) P w K mg base N qual scope f cd A outer s₁ H₁ E).env)::starEach rest (cxOf (CX1 P w) P w K mg base N qual scope f cd A outer s₁ H₁ E).env:=by rfl)
  (hpl:(backTo cpos (starEach rest (cxOf (CX1 P w) P w K mg base N qual scope f cd A outer s₁ H₁ E).env)).any (·.1)=false:=by rfl) (hd:(x == ("__debug__" : Str))=false:=by decide) :
  PS (cxOf (CX1 P w) P w K mg base N qual scope f cd A outer s₁ H₁ E) (.Raise (some (.Call (.Name x np) (e₀::rest) [] cpos)) none pos) (tRaise O.C E t):=by
 intro pins s σ H D I h
 obtain⟨tl,Na,nm,q,bs,hdct,sn,sub,ab,col,dd,k0,k1,k2,k3,k5,mN,hC,hN,hni,T⟩:=exc_obj I.ok.mod.kin O.exc
 refine wpAny_Raise_call_subT (C:=O.C) (nm:=nm) (q:=q) (N:=Na) (bs:=bs) (bm:=tl) (hdct:=hdct) (sn:=sn) (sub:=sub) (ab:=ab) (col:=col) (dd:=dd) (k0:=k0) (k1:=k1) (k2:=k2) (k3:=k3) (k5:=k5)
  PySem.F.excBase_ValueError (mN:=mN) (T.hasType PySem.F.excBase_ValueError.hasBase) (I.ok.hd rfl) (by rw[he];show(false || (backTo cpos (starEach rest (cxOf (CX1 P w) P w K mg base N qual scope f cd A outer s₁ H₁ E).env)).any (·.1))=false;rw[hpl];rfl) hni (ld_glob I hg O.mgx ⟨rfl,?_⟩ hd)
 have h':=ha cpos pins s σ H _ I h
 rw[he] at h' ⊢
 refine Calls.evalArgs_plain (wpAny_mono h' (fun us s₂ ⟨vs,H2,I2,r,hz,q⟩=>⟨rfl,?_,I2.bk _ _ hC,hN.keeps I2.bk,T.keeps I2.bk,fun h'' e hm=>fly_raise I2 rfl rfl rfl hm q⟩) fun _ _ y=>y)
 rw[← r.length,sizeLine_eq]
 omega
end
end L2
namespace L2
open PySem PySem.Spec PyProof.Rows
def excAt (a C:Addr):HO:=.ext fun h=>∃o,h.get? a=some o∧o.cls=.ref C
abbrev Cx.hand (X:Cx)(a:Addr):Cx:={X with A:=X.A.mark (some (.ref a)),calm:=false,xe:=fun _ _=>False}
section
variable {X:Cx}{pins:List (Addr×Obj)}{σ:St}{H:Hp}{s:Shared}
theorem Cx.Ok.hand (ok:X.Ok)(a:Addr):(X.hand a).Ok :=
 ⟨ok.mod,ok.kind,ok.glob,ok.blt,ok.above,ok.inj,ok.has,ok.cab,fun z=>(by cases z),ok.frames,ok.stk,ok.exf,ok.bs,ok.bsz,ok.noex,ok.exfs,ok.funs,ok.frf⟩
theorem Inv.hand (I:Inv X pins σ H s)(a:Addr):Inv (X.hand a) pins σ H s:=⟨I.ok.hand a,I.os,I.bare,I.base,I.loc,I.cell,I.free,I.freeC,I.pin,I.hok,I.len⟩
theorem Inv.unhand {a:Addr}(ok:X.Ok)(I:Inv (X.hand a) pins σ H s):Inv X pins σ H s:=⟨ok,I.os,I.bare,I.base,I.loc,I.cell,I.free,I.freeC,I.pin,I.hok,I.len⟩
end
section
variable {M:Model}{A:Around}{E:Value→Shared→Prop}{s:Shared}
theorem excMatches_own {K:PySem.W.Frag}{e C C0:Addr}{oe:Obj}{Q:Bool→Shared→Prop}(X:K.In s.heap)(he:s.heap.get? e=some oe)(hc:oe.cls=.ref C)
  (x0:PySem.W.excIn K C0 [.type "ValueError", .type "Exception", .type "BaseException", .type "object"] "ValueError.__new__" = true) (sub:PySem.W.subIn K (.ref C) (.ref C0)=some true) (h:Q true s):wpAny M A (excMatches (.ref e) (.ref C0)) Q E s:=by
 obtain⟨tl,Na,nm,q,bs,hdct,sn,sub',ab,col,dd,k0,k1,k2,k3,k5,mN,hC,hN,hni,T⟩:=exc_obj X x0
 have hcB:(Value.ref C0::tl).contains (.type "BaseException")=true:=by rw[List.contains_cons,T.hasType PySem.F.excBase_ValueError.hasBase,Bool.or_true]
 have L:PySem.W.Looks M s.heap (isSubtype (.ref C) (.ref C0)) true:=PySem.W.looks_subIn X sub
 obtain⟨hp,g,d,tk,os⟩:=s
 have f:=tc_notTuple
 unfold excMatches
 repeat (first|(with_reducible refine wpAny_loadPart_at he ?_;rw[hc])|with_reducible refine wpAny_loadPart_at hC ?_|(with_reducible refine wpAny_isSubtype_exc hC ?_;rw[hcB])|wp_step)
 refine L.at ?_
 repeat wp_step
 exact h
end
theorem objThere {P:Program}{w:World}{H:Hp}{h:Heap}{a:Addr}{o:HO}(x:ObjOk P w H h a o):∃ob,h.get? a=some ob:=by
 cases o with
 | lst xs=>obtain⟨_,_,_,_,e⟩:=x;exact⟨_,e⟩
 | tup xs=>obtain⟨_,_,_,ob,e,_⟩:=x;exact⟨_,e⟩
 | dK kvs=>obtain⟨_,_,_,_,o,_,_,e,_⟩:=x;exact⟨_,e⟩
 | dT kvs=>obtain⟨_,_,_,_,o,_,_,e,_⟩:=x;exact⟨_,e⟩
 | set S n=>obtain⟨o,_,_,_,e,_⟩:=x;exact⟨_,e⟩
 | ins C dx fs=>obtain⟨_,_,_,e,_⟩:=x;exact⟨_,e⟩
 | own y=>exact x
 | xd fs=>obtain⟨_,⟨_,_,_,e,_⟩,_⟩:=x;exact⟨_,e⟩
 | rng lo hi=>obtain⟨_,_,_,e⟩:=x;exact⟨_,e⟩
 | frz ob u=>obtain⟨e,_⟩:=x;exact⟨_,e⟩
 | dR kvs=>obtain⟨_,_,o,_,_,e,_⟩:=x;exact⟨o,e⟩
 | tbl ps=>exact⟨_,x⟩
 | met f y=>exact⟨_,x⟩
 | ext φ=>obtain⟨_,e,_⟩:=x;exact e
theorem flown_un {outer:List Env}{H H':Hp}{B h h':Heap}(frf:∀b∈frs outer,H b=none)
  (h1:∀b o,h.get? b=some o→b∉frs outer→∃o',B.get? b=some o'∧(H b=none→o'=o)) (h2:∀b o,h.get? b=some o→b∈frs outer→∃sl,h'.get? b=some {o with slots:=sl})
  (h3:∀b o,h.get? b=some o→H b=none→H' b=none) (h4:∀b xs,H b=some (.tup xs)→H' b=some (.tup xs)) (h5:∀b o u,H b=some (.frz o u)→H' b=some (.frz o u)) (h6:∀b ps,H b=some (.tbl ps)→∃more,H' b=some (.tbl (ps++more)))
  (st:B.StaysIn h'):Un (frs outer) [] H H' h h':=by
 refine⟨fun b o e n hb _=>?_,fun b o e n hb _=>h2 b o e hb,fun b o e n _=>h3 b o e n,fun b o e _=>?_,h4,h5,h6⟩
 ·obtain⟨o',e1,k⟩:=h1 b o e hb
  rw[← k n]
  exact st b o' e1
 ·by_cases hb:b∈frs outer
  ·obtain⟨sl,e1⟩:=h2 b o e hb
   exact⟨_,e1⟩
  ·obtain⟨o',e1,_⟩:=h1 b o e hb
   exact⟨o',st b o' e1⟩
end L2
namespace L2
open PySem PySem.Spec PyProof.Rows
structure ExcK (K:PySem.W.Frag)(C:Addr):Prop where
 ga:PySem.W.findIn K (.ref C) "__getattribute__" = some (some (.builtin "BaseException.__getattribute__"))
 gt:PySem.W.findIn K (.ref C) "__getattr__" = some none
 cl:PySem.W.findIn K (.ref C) "__class__" = some (some (.builtin "object.__class__"))
 be:PySem.W.subIn K (.ref C) (.type "BaseException")=some true
 ob:PySem.W.subIn K (.ref C) (.type "object")=some true
 is:(PySem.W.clsIn K C).isSome=true
section
variable {X:Cx}{CX:CXT}{k:Nat}{f:Addr}{fd:FuncData}{ps:List Str}{sp:Sp}{E:XK}{x y n:Str}{p np cpos rpos hpos pos:Pos}{e:Expr}{es:List Expr}{t:TA}{i:Nat}{b₀:Stmt}{suite:List Stmt}{th:TS}{more:List ExceptHandler}
theorem run_at {pins:List (Addr×Obj)}{σ:St}{H:Hp}{s:Shared}{Q:VK}{us:List Value}{vs:List V}{F':Value→Shared→Prop}(F:FnOk X.prog X.w X.K X.mg X.base CX k f fd ps sp)(hr:Room k X.A)(hb:Binds X.K fd ps [])
  (hx:∀H s e s',Inv X pins σ H s→CX X.stack H s E e s'→F' e s') (I:Inv X pins σ H s) (r:Vals vs us) (h:sp vs H Q E):wpAny (model X.prog X.w) X.A (call (.ref f) us) (EP X pins σ Q) F' s:=by
 have hl:us.length=ps.length:=by rw[← r.length];exact F.len _ _ _ _ h
 have hb':=hb s us I.kIn (by rw[List.append_nil];exact hl)
 rw[List.append_nil] at hb'
 refine wpAny_call (codeAny_mono (F.run X.A X.stack s H ⟨us,[]⟩ us vs Q E hr I.env0 hb' r h) fun r s' hq=>?_)
 cases r with
 | error e=>exact hx H s e s' I hq
 | ok fl =>
  cases fl with
  | ret u=>exact I.after hq
  | next=>exact False.elim hq
  | brk=>exact False.elim hq
  | cont=>exact False.elim hq
end
end L2
namespace L2
open PySem PySem.Spec PyProof.Rows
structure RoomH (k:Nat)(A:Around):Prop where
 dp:A.depth+3*k+5<recursionLimit
 un:A.units+16*k+200<cLine
theorem Room.hand {k:Nat}{A:Around}(r:Room k A)(v:Option Value):RoomH k (A.mark v):=⟨r.dp,r.un⟩
theorem RoomH.mono {j k:Nat}{A:Around}(r:RoomH k A)(h:j≤k):RoomH j A:=⟨by have:=r.dp;omega,by have:=r.un;omega⟩
end L2
namespace L2
open PySem PySem.Spec PyProof.Rows
theorem passN {P:Program}{w:World}{X:Cx}:Passes (CX1 P w) X E0:=fun _ _ _ _ _ _ _ h=>by
 obtain⟨_,_,_,_,_,_,_,_,_,_,_,_,_,_,_,_,hE⟩:=h
 exact hE.elim
theorem at_eqU {x:V}:∀{xs:List V}{us:List Value},Vals xs us→xs.all flatV=true→∀(j:Nat) (u:Value),us[j]? = some u→∃y,xs[j]? = some y∧eqU x u=eqV y x
 | _,_,.nil,_=>fun j u e=>by simp at e
 | y::xs,u::us,.cons r t,f=>fun j v e=>by
  rw[List.all_cons,Bool.and_eq_true] at f
  cases j with
  | zero =>
   have:u=v:=by simpa using e
   subst this
   exact⟨y,rfl,eqU_of r f.1⟩
  | succ j=>exact at_eqU t f.2 j v (by simpa using e)
end L2
namespace L2
open PySem PySem.Spec PyProof.Rows
end L2
namespace My
end My
namespace L2
open PySem PySem.Spec PyProof.Rows
theorem star_tup {a:List Expr}{b}{c:Pos}{es:List Expr}{env:Env}:starEach (.Tuple a b c::es) env=(false,eval (.Tuple a b c) env)::starEach es env:=by rfl
theorem star_bin {a b:Expr}{o}{c:Pos}{es:List Expr}{env:Env}:starEach (.BinOp a o b c::es) env=(false,eval (.BinOp a o b c) env)::starEach es env:=by rfl
theorem zO {f:Expr}{a:List Expr}{k}{c:Pos}{es:List Expr}{env:Env}:starEach (.Call f a k c::es) env=(false,eval (.Call f a k c) env)::starEach es env:=by rfl
theorem xu {a b:Expr}{c:Pos}{es:List Expr}{env:Env}:starEach (.Subscript a b c::es) env=(false,eval (.Subscript a b c) env)::starEach es env:=by rfl
theorem zb {a}{c:Pos}{es:List Expr}{env:Env}:starEach (.Name a c::es) env=(false,eval (.Name a c) env)::starEach es env:=by rfl
theorem zB {a}{k}{c:Pos}{es:List Expr}{env:Env}:starEach (.Constant a k c::es) env=(false,eval (.Constant a k c) env)::starEach es env:=by rfl
section
variable {prog:Program}{w:World}{A:Around}{E:Value→Shared→Prop}{s:Shared}
theorem getItem_tuple_whole {t sl:Addr}{items:Array Value}{vl vu:Value}{lo hi:Option Int}{Q:Value→Shared→Prop}(ht:IsTup s.heap t items)(hs:s.heap.IsSliceOf sl vl vu .none)(pl:IsPart vl lo)(pu:IsPart vu hi)
  (hw:HT.sIx items.size 0 lo=0∧HT.sIx items.size items.size hi=items.size) (h:Q (.ref t) s):wpAny (model prog w) A (getItem (.ref t) (.ref sl)) Q E s:=by
 obtain⟨os,hos,hcs,hds⟩:=id hs
 have hTs:s.TypeIs (.ref sl) "slice" := ⟨os,hos,hcs⟩
 unfold getItem
 try with_reducible refine wpAny_holding ?_
 first|refine wpAny_bind (wpAny_pure ?_)|skip
 refine wpAny_bind (wpAny_sequenceKey ht.typeIs (by decide) ?_)
 refine wpAny_bind (wpAny_callSpecial?_slot (name:=Str.ofString "__getitem__") ht.typeIs PyProof.Rows.slot_tuple_getitem
  (wpAny_call_entry PyProof.Rows.slot_tuple_getitem ht.typeIs entry_tuple_getitem ?_ (args_tuple_getitem _ _)))
 show wpAny _ _ (Builtin.Tuple.tupleItemsOf (.ref t) >>= _) _ _ s
 refine wpAny_bind (tupleItemsOf_ ht ?_)
 refine wpAny_bind (wpAny_typeOf hTs ?_)
 rw[if_pos (by decide)]
 refine wpAny_bind (HT.sliceApplied_gen hs pl pu ?_)
 have hyes:(((HT.sIx items.size 0 lo:Nat):Int) == 0&&(1:Int) == 1&&(HT.sIx items.size items.size hi - HT.sIx items.size 0 lo) == items.size)=true:=by
  rw[hw.1,hw.2]
  simp
 show wpAny _ _ (if (((HT.sIx items.size 0 lo:Nat):Int) == 0&&(1:Int) == 1&&(HT.sIx items.size items.size hi - HT.sIx items.size 0 lo) == items.size)=true then _ else _) _ _ s
 rw[if_pos hyes]
 refine wpAny_bind (m:=Builtin.Tuple.tupleIsExact (.ref t)) ?_
 unfold Builtin.Tuple.tupleIsExact
 refine wpAny_bind (wpAny_typeOf ht.typeIs (wpAny_pure ?_))
 rw[if_pos (by decide)]
 first
  | exact wpAny_bind (wpAny_rule (wpAny_pure ⟨_,rfl,wpAny_pure h⟩))
  | exact wpAny_bind (wpAny_rule (wpAny_pure ⟨_,rfl,h⟩))
end
section
variable {X:Cx}
def rSlU (K:PySem.W.Frag):V→Option Int→Option Int→Hp→VK→Prop:=fun x lo hi H Q=>∃a xs,x=.ref a∧SqT K H a xs∧∀p H',Same H H'→SqT K H' p (cutV xs lo hi)→Q (.ref p) H'
theorem sl_tupU:SlR X (rSlU X.K):=by
 intro pins s σ H x v vl vu lo hi sl Q I rx hs pl pu h
 obtain⟨a,xs,rfl,hx,q⟩:=h
 by_cases hw:HT.sIx xs.length 0 lo=0∧HT.sIx xs.length xs.length hi=xs.length
 ·cases rx
  obtain⟨its,r,ht,hz⟩:=I.tuple hx
  have hlen:its.toArray.size=xs.length:=by rw[List.size_toArray];exact r.length.symm
  refine⟨"tuple", _,PyProof.Rows.slot_tuple_getitem.lookup,ht.typeIs,getItem_tuple_whole ht hs pl pu (by rw[hlen];exact hw) ⟨.ref a,H,I,rfl,q a H (Same.refl _) ?_⟩⟩
  have:cutV xs lo hi=xs:=by
   unfold cutV
   rw[hw.1,hw.2,List.drop_zero,Nat.sub_zero,List.take_length]
  rw[this]
  exact hx
 ·exact sl_tup pins s σ H (.ref a) v vl vu lo hi sl Q I rx hs pl pu ⟨a,xs,rfl,hx,hw,fun p hp=>q p _ (Same.upd hp) (SqT.of zX)⟩
end
end L2
namespace L2
open PySem PySem.Spec PyProof.Rows
end L2
set_option maxHeartbeats 2000000
namespace L2
open PySem PySem.Spec PyProof.Rows
section
variable {X:Cx}{pins:List (Addr×Obj)}{σ:St}{H:Hp}{s:Shared}{a:Addr}{xs:List V}
theorem src_of (I:Inv X pins σ H s)(h:SqL X.K H a xs∨SqT X.K H a xs):∃(its:List Value) (o:Obj) (G:Heap→Prop),Vals xs its∧xs.length≤sizeLine∧o.isFreed=false∧Zp.Itb a o G∧G s.heap ∧
  (∀h h':Heap,(∀u,h.get? a=some u→h'.get? a=some u)→G h→G h')∧(∃u,s.heap.get? a=some u) ∧
  ∀it,a≠it→∃S:Nat→Heap→Prop,Zp.Src X.prog X.w it a its.length (fun i=>its.toArray.getD i .none) S∧∀h:Heap,h.get? it=some o→G h→S 0 h:=by
 rcases h with h|h
 ·obtain⟨its,rv,pl,hz⟩:=I.list h
  have pl':s.heap.IsList a its.toArray:=pl.isList
  refine⟨its,Zp.lIter a,fun h=>h.IsList a its.toArray,rv,hz,rfl,Zp.itb_lst a _,pl',fun h h' k ⟨o,e,r⟩=>⟨o,k _ e,r⟩,?_,fun it hne=>⟨_,Zp.src_lst (xs:=its.toArray) hne,fun h e g=>⟨⟨_,e,rfl,rfl⟩,g⟩⟩⟩
  obtain⟨o,e,_⟩:=pl'
  exact⟨o,e⟩
 ·obtain⟨its,rv,pl,hz⟩:=I.tuple h
  have pl':s.heap.IsTuple a its.toArray:=pl
  refine⟨its,Zp.tIter a,fun h=>h.IsTuple a its.toArray,rv,hz,rfl,Zp.itb_tup a _,pl',fun h h' k ⟨o,e,r⟩=>⟨o,k _ e,r⟩,?_,fun it hne=>⟨_,Zp.src_tup (xs:=its.toArray) hne,fun h e g=>⟨⟨_,e,rfl,rfl⟩,g⟩⟩⟩
  obtain⟨o,e,_⟩:=pl'
  exact⟨o,e⟩
end
def zipT (ls:List (List Nat))(xs:List V):List (Key×V):=(List.range (min ls.length xs.length)).foldl (fun m j=>putK m (Sum.inr (T (ls.getD j []))) (xs.getD j .non)) []
theorem zipT_len (ls:List (List Nat))(xs:List V):(zipT ls xs).length≤ls.length:=by
 have key:∀(ps:List Nat) (m:List (Key×V)),(ps.foldl (fun m j=>putK m (Sum.inr (T (ls.getD j []))) (xs.getD j .non)) m).length≤m.length+ps.length:=by
  intro ps
  induction ps with
  | nil=>intro m;simp
  | cons p r ih =>
   intro m
   rw[List.foldl_cons]
   have h1:=ih (putK m (Sum.inr (T (ls.getD p []))) (xs.getD p .non))
   have h2:=length_putK m (Sum.inr (T (ls.getD p [])):Key) (xs.getD p .non)
   rw[List.length_cons]
   omega
 have:=key (List.range (min ls.length xs.length)) []
 rw[List.length_range,List.length_nil] at this
 exact Nat.le_trans this (by omega)
theorem vals_getD {xs:List V}{us:List Value}(r:Vals xs us){j:Nat}(hj:j<us.length):RelV (xs.getD j .non) (us.toArray.getD j .none):=by
 induction r generalizing j with
 | nil=>simp at hj
 | cons p t ih =>
  cases j with
  | zero=>simpa using p
  | succ j =>
   have:=ih (j:=j) (by simpa using hj)
   rename_i _ _ l1 l2
   have hj':j<l2.length:=by simpa using hj
   simpa [Array.getD,hj'] using this
theorem kv_range {ls:List (List Nat)}{xs:List V}{us:List Value}(r:Vals xs us):∀(js:List Nat) {m:List (Key×V)}{ms:List (Key×Value)},(∀j∈js,j<us.length)→KV m ms →
  KV (js.foldl (fun m j=>putK m (Sum.inr (T (ls.getD j []))) (xs.getD j .non)) m) (js.foldl (fun m j=>stored m (Sum.inr (T (ls.getD j [])):Key) (us.toArray.getD j .none)) ms)
 | [],_,_,_,k=>k
 | j::js,_,_,h,k=>by
  rw[List.foldl_cons,List.foldl_cons]
  exact kv_range r js (fun i hi=>h i (.tail _ hi)) (k.put _ (vals_getD r (h j (.head _))))
def tZipS (K:PySem.W.Frag)(ta tb:TE):TE:=fun σ H Q=>tCons ta (tCons tb tNil) σ H fun vs H2=>∃(ls:List (List Nat)) (a b:Addr) (xs:List V),vs=[.ref a,.ref b]∧(SqL K H2 a (vT ls)∨SqT K H2 a (vT ls))∧(SqL K H2 b xs∨SqT K H2 b xs)∧ls.length≤1000∧∀p,H2 p=none→Q (.ref p) (upd H2 p (.dK (zipT ls xs)))
section
variable {X:Cx}
theorem pe_dictzipS {a b:Expr}{ta tb:TE}{p1 p2 pos1 pos2:Pos}(hc:X.calm=true)(ha:PE X a ta)(hb:PE X b tb)(hd:Gl X "dict")(hz:Gl X "zip")(md:X.mg "dict" = none)(mz:X.mg "zip" = none)
  (hs:starEach [a,b] X.env=[(false,eval a X.env),(false,eval b X.env)]:=by rfl) (hs2:starEach [b] X.env=[(false,eval b X.env)]:=by rfl)
  (hs3:starEach [.Call (.Name "zip" p2) [a,b] [] pos2] X.env=[(false,eval (.Call (.Name "zip" p2) [a,b] [] pos2) X.env)]:=by rfl) :
  PE X (.Call (.Name "dict" p1) [.Call (.Name "zip" p2) [a,b] [] pos2] [] pos1) (tZipS X.K ta tb):=by
 intro pins s σ H Q I h
 refine wpAny_Call_Name_kw (ld_blt I hd md boot_dict ?_)
 refine PyProof.Rows.callWith_type1 ?_ hs3 rfl
 rw[hs3]
 show wpAny _ _ (spliced ((false,eval (.Call (.Name "zip" p2) [a,b] [] pos2) X.env)::backTo pos1 [])) _ _ s
 refine Calls.spliced_cons ?_
 have hA:PA X [a,b] (tCons ta (tCons tb tNil)):=yU ha (yU hb pa_nil hs2) (by rw[hs,hs2])
 refine wpAny_Call_Name_kw (ld_blt I hz mz boot_zip ?_)
 refine PyProof.Rows.callWith_type1 (thn (hA pos2 pins s σ H _ I h) fun us s1 hq38=>?_) (by rw[hs,hs2]) (by rw[hs2];rfl)
 obtain⟨vs,H2,I2,r2,ls,A1,B1,xs,ev,hq,hq2,hl,q⟩:=hq38
 subst ev
 obtain⟨u1,u2,rfl,ru1,ru2⟩:=vals2 r2
 cases ru1
 cases ru2
 obtain⟨its1,o1,G1,rv1,hz1,fr1,it1,g1,mv1,⟨w1,e1⟩,sr1⟩:=src_of I2 hq
 obtain⟨its2,o2,G2,rv2,hz2,fr2,it2,g2,mv2,⟨w2,e2⟩,sr2⟩:=src_of I2 hq2
 refine Zp.call_zipG fr1 fr2 it1 it2 (fun h g=>mv2 _ _ (fun u e=>Heap.get?_push_of_some _ e) g) g1 g2 fun h1 m5=>?_
 refine Calls.spliced_nil ?_
 obtain⟨m1,m2,m3,m4,m6,m7,m8⟩:=m5
 have lt:∀{c:Addr}{o:Obj},s1.heap.get? c=some o→c<s1.heap.objs.size:=fun e=>Heap.lt_size e
 have hA1:=lt e1
 have hB1:=lt e2
 obtain⟨S1,C1,z1⟩:=sr1 s1.heap.objs.size (zW (.inl hA1))
 obtain⟨S2,C2,z2⟩:=sr2 (s1.heap.objs.size+1) (zW (.inl (Nat.lt_of_lt_of_le hB1 (by omega))))
 have el1:ls.length=its1.length:=by have:=rv1.length;unfold vT at this;rw[List.length_map] at this;exact this
 have el2:xs.length=its2.length:=rv2.length
 refine Zp.call_dict_zipG (knd:=yg X.prog X.w) (s:={s1 with heap:=h1}) (z:=s1.heap.objs.size+4) (TI:=s1.heap.objs.size+2) (TO:=s1.heap.objs.size+3) (i1:=s1.heap.objs.size) (i2:=s1.heap.objs.size+1) (p1:=A1) (p2:=B1)
  (I.ok.hd hc) ⟨zW (by omega),zW (by omega),zW (by omega),zW (by omega),zW (by omega),zW (by omega),zW (by omega),zW (by omega),zW (by omega),zW (by omega)⟩
  (zW (.inl (Nat.lt_of_lt_of_le hA1 (by omega)))) (zW (.inl (Nat.lt_of_lt_of_le hA1 (by omega)))) (zW (.inl (Nat.lt_of_lt_of_le hA1 (by omega))))
  (zW (.inl (Nat.lt_of_lt_of_le hB1 (by omega)))) (zW (.inl (Nat.lt_of_lt_of_le hB1 (by omega)))) (zW (.inl hB1)) C1 C2 (fun j=>Sum.inr (T (ls.getD j []))) (fun j hj=>?_) (by omega)
  m1 m2 m3 (z1 _ m4 (mv1 _ _ (fun u e=>m8 _ _ e) g1)) (z2 _ m6 (mv2 _ _ (fun u e=>m8 _ _ e) g2)) fun h2 tk hdict keep=>?_
 ·have hj1:j<its1.length:=by omega
  have r:=vals_getD rv1 hj1
  have er:(vT ls).getD j .non=.str (T (ls.getD j [])):=by
   unfold vT
   simp[List.getD,el1,hj1]
  rw[er] at r
  obtain⟨t,e⟩:=r
  rw[e]
  exact mixKind_str _ _ _ t
 have keep1:∀b o,s1.heap.get? b=some o→h2.get? b=some o:=fun b o e=>by
  have hb:=lt e
  exact keep b o (zW (.inl (Nat.lt_of_lt_of_le hb (by omega)))) (zW (.inl (Nat.lt_of_lt_of_le hb (by omega)))) (zW (.inl hb)) (zW (.inl (Nat.lt_of_lt_of_le hb (by omega)))) (m8 b o e)
 have hp:s1.heap.objs.size≤h1.objs.size:=by rw[m7];omega
 have hnone:H2 h1.objs.size=none:=I2.hok.fresh hp
 refine⟨.ref h1.objs.size,upd H2 h1.objs.size (.dK (zipT ls xs)),I2.laid (h':=h2) (t':=tk) keep1 hp ?_,rfl,q _ hnone⟩
 refine⟨?_,?_,_,?_,hdict⟩
 ·have:=zipT_len ls xs
  rw[sizeLine_eq];omega
 ·have hbig:=I2.big
  exact beq_eq_false_iff_ne.mpr (by have:=hbig;intro z;rw[z] at hp;exact absurd (Nat.lt_of_lt_of_le hbig hp) (Nat.lt_irrefl _))
 ·unfold zipT
  rw[el1,el2]
  exact kv_range rv2 _ (fun j hj=>by have:=List.mem_range.mp hj;omega) KV_nil
end
end L2
namespace L2
open PySem PySem.Spec PyProof.Rows
theorem tuple_indexAt (l:Addr)(items:Array Value)(x:Value)(e:Value→Bool)(j:Nat)(hj:j<items.size)
  (hit:e items[j]=true) (hno:∀m (hm:m<items.size),m<j→e items[m]=false) :
  Meets (Builtin.«tuple.index» ⟨[.ref l,x],[]⟩)
   (fun A R s=>s.heap.IsTuple l items∧(∀y,y∈items→SeqAt.EqAt A.in1 s y x (e y))∧R (.ok (.ret (.int j s.toks))) {s with toks:=s.toks+1}):=by
 intro prog w A R s h
 obtain⟨hl,he,h⟩:=h
 obtain⟨o,ho,hc,n,hd⟩:=id hl
 unfold Builtin.«tuple.index»
 refine wpAny_bind ?_
 wp_walk using wpAny_loadPart' ho
 rw[hd]
 refine wpAny_pure (wpAny_pure ?_)
 refine wpAny_bind (wpAny_pure (wpAny_bind (wpAny_pure (wpAny_bind ?_))))
 rw[Std.Legacy.Range.forIn_eq_forIn_range']
 simp only[Std.Legacy.Range.size,Nat.sub_zero,Nat.add_sub_cancel,Nat.div_one,Nat.min_self]
 refine wpAny_forIn_list _ (fun rest b s'=>s'=s∧∃i,rest=List.range' i (items.size - i)∧i≤j) _ ?_ ?_ _ _ ⟨rfl,0,by simp,Nat.zero_le _⟩
 ·rintro y rest b s' ⟨rfl,i,hr,hi⟩
  obtain ⟨rfl,hrest⟩:y=i∧rest=List.range' (i+1) (items.size - (i+1)):=by
   have e:items.size - i=(items.size - (i+1))+1:=by omega
   rw[e,List.range'_succ] at hr
   injection hr with h1 h2
   exact⟨h1,h2⟩
  have hlt:y<items.size:=by omega
  rw[Array.getElem?_eq_getElem hlt]
  refine wpAny_bind (he _ (Array.getElem_mem hlt) prog w _ _ ?_)
  rcases Nat.lt_or_ge y j with hyj|hyj
  ·rw[hno y hlt hyj]
   exact wpAny_pure ⟨rfl,y+1,hrest,hyj⟩
  ·have:y=j:=by omega
   subst this
   rw[hit]
   rw[if_pos rfl]
   wp_walk
   exact h
 ·rintro b s' ⟨rfl,i,hr,hi⟩
  have:items.size - i=0:=by
   have:=congrArg List.length hr
   simpa using this.symm
  omega
section
variable {X:Cx}
def rIndexS (K:PySem.W.Frag):V→List V→Hp→VK→Prop:=fun x vs H Q=>∃(l:Addr) (xs:List V) (y:V) (j:Nat) (z:V),x=.ref l∧vs=[y]∧SqT K H l xs∧flatV y=true∧xs.all flatV=true∧xs[j]? = some z∧eqV z y=true∧(∀(m:Nat) (w:V),m<j→xs[m]? = some w→eqV w y=false)∧Q (.int (j:Int)) H
theorem mt_indexT:MtR X "tuple.index" (rIndexS X.K):=by
 intro pins s σ H x vs v us Q I rx rv h
 obtain⟨l,xs,y,j,z0,rfl,rfl,hH,fy,fs,hj,hz,hno,q⟩:=h
 cases rx
 obtain⟨u,rfl,ru⟩:=rv.one
 obtain⟨its,r,pl,hl⟩:=I.tuple hH
 obtain⟨o,e,hc,n,hd⟩:=id pl
 have hjl:j<its.length:=by rw[← r.length];exact(List.getElem?_eq_some_iff.mp hj).1
 refine call_meets F.slot_tuple_index ⟨_,e,hc⟩ F.entry_tuple_index (F.args_tuple_index_2 _ _) (tuple_indexAt l its.toArray u (eqU y) j (by simpa using hjl) ?_ ?_) ⟨⟨o,e,hc,n,hd⟩,fun w hw=>mem_eqAt ru fy r fs w (by simpa using hw),?_⟩
 ·obtain⟨y2,e2,e3⟩:=at_eqU (x:=y) r fs j its[j] (List.getElem?_eq_getElem hjl)
  rw[hj] at e2
  obtain rfl:=Option.some.inj e2
  show eqU y its[j]=true
  rw[e3,hz]
 ·intro m hm hmj
  have hml:m<its.length:=by simpa using hm
  obtain⟨y2,e2,e3⟩:=at_eqU (x:=y) r fs m its[m] (List.getElem?_eq_getElem hml)
  show eqU y its[m]=false
  rw[e3]
  exact hno m y2 hmj e2
 ·exact⟨.int _,H,I.tok _,⟨_,rfl⟩,q⟩
def rIndexLS (K:PySem.W.Frag):V→List V→Hp→VK→Prop:=fun x vs H Q=>∃(l:Addr) (xs:List V) (y:V) (j:Nat) (z:V),x=.ref l∧vs=[y]∧SqL K H l xs∧flatV y=true∧xs.all flatV=true∧xs[j]? = some z∧eqV z y=true∧j<1000000∧(∀(m:Nat) (w:V),m<j→xs[m]? = some w→eqV w y=false)∧Q (.int (j:Int)) H
theorem mt_indexL:MtR X "list.index" (rIndexLS X.K):=by
 intro pins s σ H x vs v us Q I rx rv h
 obtain⟨l,xs,y,j,z0,rfl,rfl,hH,fy,fs,hj,hz,h1000,hno,q⟩:=h
 cases rx
 obtain⟨u,rfl,ru⟩:=rv.one
 obtain⟨its,r,pl,hl⟩:=I.list hH
 obtain⟨o,n,e,hc,hd,hs⟩:=id pl
 have hjl:j<its.length:=by rw[← r.length];exact(List.getElem?_eq_some_iff.mp hj).1
 have eo:o={cls:=.type "list", dict:=none,data:=.seq its.toArray n,slots:=o.slots}:=by
  obtain⟨c,d,dt,sl⟩:=o
  dsimp only at hc hd hs
  subst hc hd hs
  rfl
 rw[eo] at e
 refine call_meets F.slot_list_index ⟨_,e,rfl⟩ F.entry_list_index (F.args_list_index_2 _ _) (SeqAt.list_indexAt l its.toArray n none o.slots u (eqU y) j (by simpa using hjl) (by omega) ?_ ?_) ⟨e,fun w hw=>mem_eqAt ru fy r fs w (by simpa using hw),?_⟩
 ·obtain⟨y2,e2,e3⟩:=at_eqU (x:=y) r fs j its[j] (List.getElem?_eq_getElem hjl)
  rw[hj] at e2
  obtain rfl:=Option.some.inj e2
  show eqU y its[j]=true
  rw[e3,hz]
 ·intro m hm hmj
  have hml:m<its.length:=by simpa using hm
  obtain⟨y2,e2,e3⟩:=at_eqU (x:=y) r fs m its[m] (List.getElem?_eq_getElem hml)
  show eqU y its[m]=false
  rw[e3]
  exact hno m y2 hmj e2
 ·exact⟨.int _,H,I.tok _,⟨_,rfl⟩,q⟩
end
end L2
set_option maxHeartbeats 1000000
namespace L2
open PySem
def txt:Value→Str
 | .str x _=>x
 | _=>⟨#[]⟩
abbrev stO (es:Array (Int×Value))(ep:Nat)(t:SetTable):Obj:={cls:=.type "set", dict:=none,data:=.set es ep t,slots:=#[]}
structure StS (w:World)(es:Array (Int×Value))(t:SetTable)(ks:List Str):Prop where
 shape:∀e∈es.toList,∃x tk,e=(hashStr w x,Value.str x tk)
 keys:(es.toList.map fun e=>txt e.2).Perm ks
 nd:ks.Nodup
 fits:t.fits es.size=true
 led:t.led = !w.params.followText "set-order"
 plain:es.size=0∨t.plain=false
 few:es.size<scanBound
theorem StS.size {w:World}{es:Array (Int×Value)}{t:SetTable}{ks:List Str}(S:StS w es t ks):es.size=ks.length:=by
 have:=S.keys.length_eq
 simpa using this
theorem isStrOf_txt {x y:Str}{tk:Tok}:Value.isStrOf x (.str y tk)=true↔x=y:=by
 constructor
 ·intro h
  obtain⟨t,e⟩:=Value.isStrOf_shape h
  injection e with e _
  exact e.symm
 ·rintro rfl;simp[Value.isStrOf,Value.isStr]
theorem StS.find {w:World}{es:Array (Int×Value)}{t:SetTable}{ks:List Str}(S:StS w es t ks)(x:Str):(∃e∈es.toList,Value.isStrOf x e.2=true)↔x∈ks:=by
 rw[← S.keys.mem_iff,List.mem_map]
 constructor
 ·rintro⟨e,he,h⟩
  obtain⟨y,tk,rfl⟩:=S.shape e he
  exact⟨_,he,(isStrOf_txt.mp h).symm⟩
 ·rintro⟨e,he,h⟩
  obtain⟨y,tk,rfl⟩:=S.shape e he
  exact⟨_,he,isStrOf_txt.mpr h.symm⟩
end L2
namespace L2
open PySem
section
variable {prog:Program}{w:World}{A:Around}{R:Result→Shared→Prop}{I:Addr}{fp wr:List Addr}{G:Array GenState→Array GenState→Prop}{n:Nat}{P:Nat→Value→Prop}{St:Nat→Shared→Prop}
theorem ent_sul:entryFor table "set.update.loop" = some Builtin.«set.update.loop»:=entryFor_of_tree (by kernel_rfl)
theorem pl_sul:plainId "set.update.loop" = true:=by decide +kernel
end
end L2
namespace L2
open PySem
theorem perm_erase {α:Type}:∀(l:List α) (k:Nat) (h:k<l.length),(l[k]::l.eraseIdx k).Perm l
 | x::l,0,h=>List.Perm.refl _
 | x::l,k+1,h=>by
  have ih:=perm_erase l k (by simpa using h)
  exact(List.Perm.swap _ _ _).trans (ih.cons x)
section
variable {prog:Program}{w:World}{A:Around}{E:Value→Shared→Prop}{s:Shared}
theorem wp_choose {src:Source}{n:Nat}{Q:Nat→Shared→Prop}(hn:n≠0)(h:∀k d,k<n→Q k {s with drawn:=d}):wpAny (model prog w) A (choose src n) Q E s :=
 fun Γ p _=>⟨hn,h _ _ (Nat.mod_lt _ (Nat.pos_of_ne_zero hn))⟩
theorem wp_drawOrder {α:Type}:∀(n:Nat) (xs:List α) (s:Shared) (Q:List α→Shared→Prop),xs.length=n→(∀ys d,ys.Perm xs→Q ys {s with drawn:=d})→wpAny (model prog w) A (drawOrder n xs) Q E s
 | 0,xs,s,Q,hl,h=>by
  unfold drawOrder
  have:xs=[]:=List.length_eq_zero_iff.mp hl
  subst this
  exact wpAny_pure (h [] s.drawn (List.Perm.refl _))
 | n+1,[],s,Q,hl,h=>by simp at hl
 | n+1,x::xs,s,Q,hl,h=>by
  unfold drawOrder
  refine wpAny_bind (wp_choose (by simp) fun k d hk=>?_)
  have e:(x::xs)[k]? = some (x::xs)[k]:=List.getElem?_eq_getElem hk
  rw[e]
  dsimp only
  have hlen:((x::xs).eraseIdx k).length=n:=by
   rw[List.length_eraseIdx_of_lt hk];omega
  refine wpAny_bind (wp_drawOrder n _ _ _ hlen fun ys d' p=>?_)
  refine wpAny_pure (h _ d' ?_)
  exact(List.Perm.cons _ p).trans (perm_erase _ _ hk)
theorem pick_perm {α:Type}(next:Nat→Nat):∀(fuel k:Nat) (left:List α) (out:Array α),left.length=fuel→(pickOrder.go next fuel k left out).toList.Perm (out.toList++left)
 | 0,k,left,out,h=>by
  have:left=[]:=List.length_eq_zero_iff.mp h
  subst this
  unfold pickOrder.go
  simp
 | fuel+1,k,left,out,h=>by
  unfold pickOrder.go
  have hp:0<left.length:=by omega
  have hk:next k % left.length<left.length:=Nat.mod_lt _ hp
  have e:left[next k % left.length]? = some left[next k % left.length]:=List.getElem?_eq_getElem hk
  rw[e]
  dsimp only
  refine(pick_perm next fuel (k+1) _ _ (by rw[List.length_eraseIdx_of_lt hk];omega)).trans ?_
  rw[Array.toList_push,List.append_assoc]
  exact List.Perm.append_left _ (perm_erase _ _ hk)
theorem pickOrder_perm {α:Type}(next:Nat→Nat)(xs:Array α):(pickOrder next xs).toList.Perm xs.toList:=by
 unfold pickOrder
 have:=pick_perm next xs.size 0 xs.toList #[] (by simp)
 simpa using this
theorem sl_setnext:Slot "set_iterator" "__next__" "set_iterator.__next__" := .of (owner := "set_iterator") (n := "__next__") (by rw[typeLookup_type,builtinLookup_eq_fast];kernel_rfl)
 (by decide +kernel) (by decide +kernel) (by decide +kernel) (by first|exact .inl (by decide +kernel)|exact .inr (by decide +kernel)) (by rw[isSubtype_type];kernel_rfl)
theorem en_setnext:entryFor table "set_iterator.__next__" = some Builtin.«set_iterator.__next__»:=entryFor_of_tree (by kernel_rfl)
theorem ow_setit:Manifest.owners.lookup (String.ofList ['r','o','t','a','r','e','t','i','_','t','e','s'].reverse)=some Manifest.sig_set_iterator:=by kernel_rfl
theorem ar_setnext (a:Value):argsOk "set_iterator.__next__" ⟨[a],[]⟩:=by
 unfold argsOk;rw[signature?_of (id := "set_iterator.__next__") (n:=['_','_','t','x','e','n','_','_']) (o:=['r','o','t','a','r','e','t','i','_','t','e','s']) (by kernel_rfl) ow_setit];kernel_rfl
theorem sl_setit:Slot "set_iterator" "__iter__" "set_iterator.__iter__" := .of (owner := "set_iterator") (n := "__iter__") (by rw[typeLookup_type,builtinLookup_eq_fast];kernel_rfl)
 (by decide +kernel) (by decide +kernel) (by decide +kernel) (by first|exact .inl (by decide +kernel)|exact .inr (by decide +kernel)) (by rw[isSubtype_type];kernel_rfl)
theorem en_setiter:entryFor table "set.__iter__" = some Builtin.«frozenset.__iter__»:=entryFor_alias (id' := "frozenset.__iter__") (by kernel_rfl) rfl (by decide +kernel) (by kernel_rfl)
abbrev itO (first:Value)(i:Nat)(a:Addr)(n ep:Nat):Obj:={cls:=.type "set_iterator", dict:=none,data:=.fields #[first,.int i 0,.ref a,.int n 0,.int ep 0],slots:=#[]}
theorem below_one (t:SetTable)(es:Array (Int×Value))(hf:t.fits es.size=true)(h1:es.size≤1):SetTable.below t.place 0=0∧(∀j,t.place[0]? = some j→SetTable.below t.place (j+1)=es.size):=by
 have hp:t.place.size=es.size:=by
  simp only[SetTable.fits,Bool.and_eq_true,beq_iff_eq] at hf
  exact hf.1
 rcases Nat.lt_or_ge 0 es.size with h|h
 ·have e1:es.size=1:=by omega
  rw[e1] at hp
  obtain ⟨j,hj⟩:∃j,t.place = #[j]:=by
   obtain⟨l,e⟩:∃l,t.place=⟨l⟩:=⟨t.place.toList,rfl⟩
   rw[e] at hp ⊢
   match l,hp with
   | [x],_=>exact⟨x,rfl⟩
  rw[hj]
  refine⟨?_,fun j' e=>?_⟩
  ·simp[SetTable.below,SetTable.below.go]
  ·simp at e
   subst e
   simp[SetTable.below,SetTable.below.go,e1]
 ·have e0:es.size=0:=by omega
  rw[e0] at hp
  have:t.place = #[]:=Array.eq_empty_of_size_eq_zero hp
  rw[this]
  exact⟨rfl,fun j e=>by simp at e⟩
theorem st_next {I a:Addr}{first first':Value}{i n ep:Nat}{v:Value}{es:Array (Int×Value)}{t:SetTable}{Q:Option Value→Shared→Prop}(hI:s.heap.get? I=some (itO first i a es.size ep))(ho:s.heap.get? a=some (stO es ep t))(hf:t.fits es.size=true)
  (how:(∃slot next:Nat,first=.int slot 0∧first'=.int next 0∧∀(A:Around) (Q':Option (Value×Nat)→Shared→Prop) (E:Value→Shared→Prop),Q' (some (v,next)) s→wpAny (model prog w) A (setNext a slot i ep) Q' E s) ∨
   (∃(p:Addr) (ys:List Nat) (k:Nat) (hz:Int),first=.ref p∧first'=first∧(∃c,s.heap.get? p=some {cls:=.type "tuple", dict:=none,data:=.seq (ys.map fun(j:Nat)=>Value.int j 0).toArray c,slots:=#[]})∧ys[i]? = some k∧es[k]? = some (hz,v)))
  (hQ:∀h',h'.get? I=some (itO first' (i+1) a es.size ep)→Heap.SameBut I s.heap h'→Q (some v) {s with heap:=h'}):wpAny (model prog w) A (pyNext (.ref I)) Q E s:=by
 have hT:s.TypeIs (.ref I) "set_iterator" := ⟨_,hI,rfl⟩
 unfold pyNext
 refine wpAny_bind (wpAny_attempt (wpAny_callSpecial?_slot (name:=Str.ofString "__next__") hT sl_setnext (wpAny_call_entry sl_setnext hT en_setnext ?_ (ar_setnext _))))
 unfold Builtin.«set_iterator.__next__»
 refine wpAny_bind (m:=slotArgs "__next__" 0 ⟨[.ref I],[]⟩) (wpAny_pure ?_)
 refine wpAny_bind (wpAny_fieldsOf hI rfl ?_)
 dsimp only
 refine wpAny_bind (wpAny_setEntries_of ho rfl hf ?_)
 rw[if_neg (by simp)]
 rcases how with⟨slot,next,rfl,rfl,hn⟩|⟨p,ys,k,hz,rfl,rfl,⟨c,hp⟩,hy,he⟩
 ·dsimp only
  refine wpAny_bind (hn _ _ _ ?_)
  dsimp only
  refine wpAny_bind (wpAny_setField hI rfl (by simp) ?_)
  have g1:(s.heap.update I (Obj.mapFields (·.setIfInBounds 0 (rawInt (next:Int))))).get? I=some (itO (.int next 0) i a es.size ep):=Heap.get?_update_self (Obj.mapFields (·.setIfInBounds 0 (rawInt (next:Int)))) hI rfl
  refine wpAny_bind (wpAny_setField g1 rfl (by simp) ?_)
  have g2:((s.heap.update I (Obj.mapFields (·.setIfInBounds 0 (rawInt (next:Int))))).update I (Obj.mapFields (·.setIfInBounds 1 (rawInt ((i:Int)+1))))).get? I=some (itO (.int next 0) (i+1) a es.size ep):=Heap.get?_update_self (Obj.mapFields (·.setIfInBounds 1 (rawInt ((i:Int)+1)))) g1 rfl
  exact wpAny_pure ⟨_,rfl,wpAny_pure (hQ _ g2 ((Heap.SameBut.update ..).trans (Heap.SameBut.update ..)))⟩
 ·dsimp only
  have hq:∀(A:Around) (E:Value→Shared→Prop) (Q':Option (Array Value)→Shared→Prop),Q' (some (ys.map fun(j:Nat)=>Value.int j 0).toArray) s→wpAny (model prog w) A (seqItems? (.ref p)) Q' E s:=fun A E Q' q=>by
   unfold seqItems?
   exact wpAny_bind (wpAny_load hp (wpAny_pure q))
  refine wpAny_bind (hq _ _ _ ?_)
  dsimp only
  have e1:(ys.map fun(j:Nat)=>Value.int j 0).toArray[(i:Int).toNat]? = some (.int k 0):=by simp[hy]
  rw[e1]
  dsimp only
  unfold setNextDrawn
  refine wpAny_bind (wpAny_bind (wpAny_setState_of ho rfl hf ?_))
  dsimp only
  rw[if_neg (by simp)]
  have e2:es[(k:Int).toNat]? = some (hz,v):=by simpa using he
  rw[e2]
  refine wpAny_pure (wpAny_bind (wpAny_setField hI rfl (by simp) ?_))
  have g2:(s.heap.update I (Obj.mapFields (·.setIfInBounds 1 (rawInt ((i:Int)+1))))).get? I=some (itO (.ref p) (i+1) a es.size ep):=Heap.get?_update_self (Obj.mapFields (·.setIfInBounds 1 (rawInt ((i:Int)+1)))) hI rfl
  exact wpAny_pure ⟨_,rfl,wpAny_pure (hQ _ g2 (Heap.SameBut.update ..))⟩
end
end L2
namespace L2
open PySem
section
variable {prog:Program}{w:World}{A:Around}{E:Value→Shared→Prop}{s:Shared}
theorem st_stop {I:Addr}{Q:Option Value→Shared→Prop}{h:Heap}(hh:A.handled=none)(hs:Heap.SameBut I s.heap h)(hQ:∀h',Heap.ExtBut I s.heap h'→Q none {s with heap:=h'}) :
  wpAny (model prog w) A.in1 (newExc (.type "StopIteration") [] >>= fun e=>(raiseNew e:Sem PySem.Fin)) (fun fin s'=>∃r,fin=.done (.ret r)∧wpAny (model prog w) A (pure (some r)) Q E s')
   (fun e s'=>wpAny (model prog w) A (isInstance e (.type "StopIteration") >>= fun b=>if b=true then pure none else throw e) Q E s') {s with heap:=h}:=by
 refine wpAny_bind ?_
 simp only[newExc,newTuple]
 refine wpAny_bind (wpAny_newObj_type ?_ (by size_fits))
 refine wpAny_bind (m:=firstArgMember _ _) (wpAny_of_eq (a:=Value.none) (by first|rfl|(simp only[firstArgMember];rfl)) ?_)
 refine wpAny_newObj_type ?_ (by size_fits)
 simp only[raiseNew]
 refine wpAny_bind (wpAny_handled ?_)
 have hh':A.in1.handled=none:=hh
 rw[hh']
 refine wpAny_bind (wpAny_pure (wpAny_throw ?_))
 refine wpAny_bind (wpAny_isInstance (T := "StopIteration") (b:=true) ⟨_,Heap.get?_push_size _ rfl,rfl⟩ isSubtype_stop ?_)
 exact wpAny_pure (hQ _ ((hs.extBut.push _).push _))
theorem st_end {I a:Addr}{first:Value}{i ep:Nat}{es:Array (Int×Value)}{t:SetTable}{Q:Option Value→Shared→Prop}(hh:A.handled=none)(hI:s.heap.get? I=some (itO first i a es.size ep))(ho:s.heap.get? a=some (stO es ep t))(hf:t.fits es.size=true)
  (how:(∃slot:Nat,first=.int slot 0∧∀(A:Around) (Q':Option (Value×Nat)→Shared→Prop) (E:Value→Shared→Prop),Q' none s→wpAny (model prog w) A (setNext a slot i ep) Q' E s) ∨
   (∃(p:Addr) (ys:List Nat),first=.ref p∧(∃c,s.heap.get? p=some {cls:=.type "tuple", dict:=none,data:=.seq (ys.map fun(j:Nat)=>Value.int j 0).toArray c,slots:=#[]})∧ys[i]? = none))
  (hQ:∀h',Heap.ExtBut I s.heap h'→Q none {s with heap:=h'}):wpAny (model prog w) A (pyNext (.ref I)) Q E s:=by
 have hT:s.TypeIs (.ref I) "set_iterator" := ⟨_,hI,rfl⟩
 unfold pyNext
 refine wpAny_bind (wpAny_attempt (wpAny_callSpecial?_slot (name:=Str.ofString "__next__") hT sl_setnext (wpAny_call_entry sl_setnext hT en_setnext ?_ (ar_setnext _))))
 unfold Builtin.«set_iterator.__next__»
 refine wpAny_bind (m:=slotArgs "__next__" 0 ⟨[.ref I],[]⟩) (wpAny_pure ?_)
 refine wpAny_bind (wpAny_fieldsOf hI rfl ?_)
 dsimp only
 refine wpAny_bind (wpAny_setEntries_of ho rfl hf ?_)
 rw[if_neg (by simp)]
 rcases how with⟨slot,rfl,hn⟩|⟨p,ys,rfl,⟨c,hp⟩,hy⟩
 ·dsimp only
  refine wpAny_bind (hn _ _ _ ?_)
  dsimp only
  refine wpAny_bind (wpAny_setField hI rfl (by simp) ?_)
  exact st_stop hh (Heap.SameBut.update ..) hQ
 ·dsimp only
  have hq:∀(A:Around) (E:Value→Shared→Prop) (Q':Option (Array Value)→Shared→Prop),Q' (some (ys.map fun(j:Nat)=>Value.int j 0).toArray) s→wpAny (model prog w) A (seqItems? (.ref p)) Q' E s:=fun A E Q' q=>by
   unfold seqItems?
   exact wpAny_bind (wpAny_load hp (wpAny_pure q))
  refine wpAny_bind (hq _ _ _ ?_)
  dsimp only
  have e1:(ys.map fun(j:Nat)=>Value.int j 0).toArray[(i:Int).toNat]? = none:=by simpa using hy
  rw[e1]
  dsimp only
  refine wpAny_bind (wpAny_setField hI rfl (by simp) ?_)
  have g1:(s.heap.update I (Obj.mapFields (·.setIfInBounds 0 (rawInt 0)))).get? I=some (itO (.int 0 0) i a es.size ep):=Heap.get?_update_self (Obj.mapFields (·.setIfInBounds 0 (rawInt 0))) hI rfl
  refine wpAny_bind (wpAny_setField g1 rfl (by simp) ?_)
  exact st_stop (s:=s) (I:=I) hh ((Heap.SameBut.update ..).trans (Heap.SameBut.update ..)) hQ
theorem en_setself:entryFor table "set_iterator.__iter__" = some Builtin.«dict_keyiterator.__iter__»:=entryFor_alias (id' := "dict_keyiterator.__iter__") (by kernel_rfl) rfl (by decide +kernel) (by kernel_rfl)
theorem ar_setself (a:Value):argsOk "set_iterator.__iter__" ⟨[a],[]⟩:=by
 unfold argsOk;rw[signature?_of (id := "set_iterator.__iter__") (n:=['_','_','r','e','t','i','_','_']) (o:=['r','o','t','a','r','e','t','i','_','t','e','s']) (by kernel_rfl) ow_setit];kernel_rfl
theorem st_self {I a:Addr}{first:Value}{i n ep:Nat}{Q:Value→Shared→Prop}(hI:s.heap.get? I=some (itO first i a n ep))(hQ:Q (.ref I) s):wpAny (model prog w) A (pyIter (.ref I)) Q E s:=by
 have hT:s.TypeIs (.ref I) "set_iterator" := ⟨_,hI,rfl⟩
 refine wpAny_pyIter_slot hT sl_setit (wpAny_call_entry sl_setit hT en_setself ?_ (ar_setself _))
 exact wpAny_bind (m:=slotArgs "__iter__" 0 ⟨[.ref I],[]⟩) (wpAny_pure (wpAny_pure ⟨_,rfl, "set_iterator", _,hT,sl_setnext.lookup,hQ⟩))
theorem wk_text (hh:A.handled=none)(I a:Addr)(hne:a≠I)(es:Array (Int×Value))(ep:Nat)(t:SetTable)(hf:t.fits es.size=true)(hw:w.params.followText "set-order" = true) :
  Walks prog w A I [I,a] [I] es.size (fun i v=>((pickOrder (w.params.setOrder a ep) es).toList.map (·.2))[i]? = some v) (fun i h=>h.get? I=some (itO (.int 0 0) i a es.size ep)∧h.get? a=some (stO es ep t)) where
 sub:=fun b hb=>by simp at hb;simp[hb]
 frame:=fun i h h' st k=>⟨k I (by simp) _ st.1,k a (by simp) _ st.2⟩
 item:=fun i s Q E hi st hQ=>by
  have hl:(pickOrder (w.params.setOrder a ep) es).size=es.size:=by
   have:=(pickOrder_perm (w.params.setOrder a ep) es).length_eq
   simpa using this
  have hi':i<(pickOrder (w.params.setOrder a ep) es).size:=by rw[hl];exact hi
  refine st_next (v:=(pickOrder (w.params.setOrder a ep) es)[i].2) (n:=0) st.1 st.2 hf (.inl ⟨0,0,rfl,rfl,fun A' Q' E' q=>?_⟩) fun h' g sb=>?_
  ·unfold setNext setsByText
   refine wpAny_bind (wpAny_setState_of st.2 rfl hf ?_)
   dsimp only
   refine wpAny_bind (wpAny_bind (wpAny_askSetting (wpAny_pure ?_)))
   dsimp only
   rw[show(model prog w).w.params.followText "set-order" = true from hw,if_pos rfl,if_neg (by simp)]
   unfold setWalk setsByText
   refine wpAny_bind (wpAny_bind (wpAny_setState_of st.2 rfl hf ?_))
   dsimp only
   refine wpAny_bind (wpAny_bind (wpAny_askSetting (wpAny_pure ?_)))
   dsimp only
   rw[show(model prog w).w.params.followText "set-order" = true from hw,if_pos rfl]
   refine wpAny_bind (wpAny_askSetting (wpAny_pure (wpAny_pure ?_)))
   show Q' (((pickOrder (w.params.setOrder a ep) es)[i]?).map fun e=>(e.2,0)) s
   rw[Array.getElem?_eq_getElem hi']
   exact q
  ·exact hQ _ h' s.toks (by simp[hi']) ⟨g,(sb.2 a hne).trans st.2⟩ fun b o hb e=>(sb.2 b fun z=>hb (by simp[z])).trans e
 done:=fun s Q E st hQ=>by
  refine st_end hh st.1 st.2 hf (.inl ⟨0,rfl,fun A' Q' E' q=>?_⟩) fun h' eb=>hQ h' s.toks fun b o hb e=>eb b o (fun z=>hb (by simp[z])) e
  unfold setNext setsByText
  refine wpAny_bind (wpAny_setState_of st.2 rfl hf ?_)
  dsimp only
  refine wpAny_bind (wpAny_bind (wpAny_askSetting (wpAny_pure ?_)))
  dsimp only
  rw[show(model prog w).w.params.followText "set-order" = true from hw,if_pos rfl,if_neg (by simp)]
  unfold setWalk setsByText
  refine wpAny_bind (wpAny_bind (wpAny_setState_of st.2 rfl hf ?_))
  dsimp only
  refine wpAny_bind (wpAny_bind (wpAny_askSetting (wpAny_pure ?_)))
  dsimp only
  rw[show(model prog w).w.params.followText "set-order" = true from hw,if_pos rfl]
  refine wpAny_bind (wpAny_askSetting (wpAny_pure (wpAny_pure ?_)))
  have hl:(pickOrder (w.params.setOrder a ep) es).size=es.size:=by
   have:=(pickOrder_perm (w.params.setOrder a ep) es).length_eq
   simpa using this
  show Q' (((pickOrder (w.params.setOrder a ep) es)[es.size]?).map fun e=>(e.2,0)) s
  rw[Array.getElem?_eq_none (by omega)]
  exact q
 self:=fun i s Q E st hQ=>st_self st.1 hQ
theorem wk_drawn (hh:A.handled=none)(I a p:Addr)(hne:a≠I)(hnp:p≠I)(es:Array (Int×Value))(ep:Nat)(t:SetTable)(hf:t.fits es.size=true)(ys:List Nat)(hy:ys.Perm (List.range es.size)) :
  Walks prog w A I [I,a,p] [I] es.size (fun i v=>(ys.map fun k=>(es.toList.map (·.2)).getD k .none)[i]? = some v) (fun i h=>h.get? I=some (itO (.ref p) i a es.size ep)∧h.get? a=some (stO es ep t)∧∃c,h.get? p=some {cls:=.type "tuple", dict:=none,data:=.seq (ys.map fun(j:Nat)=>Value.int j 0).toArray c,slots:=#[]}) where
 sub:=fun b hb=>by simp at hb;simp[hb]
 frame:=fun i h h' st k=>⟨k I (by simp) _ st.1,k a (by simp) _ st.2.1,let ⟨c,e⟩:=st.2.2;⟨c,k p (by simp) _ e⟩⟩
 item:=fun i s Q E hi st hQ=>by
  have hl:ys.length=es.size:=by simpa using hy.length_eq
  have hi':i<ys.length:=by omega
  have hk:ys[i]<es.size:=by simpa using hy.mem_iff.mp (List.getElem_mem hi')
  refine st_next (v:=es[ys[i]].2) (n:=0) st.1 st.2.1 hf (.inr ⟨p,ys,ys[i],es[ys[i]].1,rfl,rfl,st.2.2,List.getElem?_eq_getElem hi',by simp[hk]⟩) fun h' g sb=>?_
  exact hQ _ h' s.toks (by simp[hi',hk]) ⟨g,(sb.2 a hne).trans st.2.1,let ⟨c,e⟩:=st.2.2;⟨c,(sb.2 p hnp).trans e⟩⟩ fun b o hb e=>(sb.2 b fun z=>hb (by simp[z])).trans e
 done:=fun s Q E st hQ=>by
  have hl:ys.length=es.size:=by simpa using hy.length_eq
  exact st_end hh st.1 st.2.1 hf (.inr ⟨p,ys,rfl,st.2.2,by simp[hl]⟩) fun h' eb=>hQ h' s.toks fun b o hb e=>eb b o (fun z=>hb (by simp[z])) e
 self:=fun i s Q E st hQ=>st_self st.1 hQ
theorem wk_led (hh:A.handled=none)(I a:Addr)(hne:a≠I)(es:Array (Int×Value))(ep:Nat)(t:SetTable)(hf:t.fits es.size=true)(h1:es.size≤1)(hl:t.led=true)(hw:w.params.followText "set-order" = false) :
  Walks prog w A I [I,a] [I] es.size (fun i v=>(es.toList.map (·.2))[i]? = some v) (fun i h=>(∃slot:Nat,h.get? I=some (itO (.int slot 0) i a es.size ep)∧SetTable.below t.place slot=i)∧h.get? a=some (stO es ep t)) where
 sub:=fun b hb=>by simp at hb;simp[hb]
 frame:=fun i h h' st k=>⟨let ⟨x,e,z⟩:=st.1;⟨x,k I (by simp) _ e,z⟩,k a (by simp) _ st.2⟩
 item := fun i s Q E hi st hQ=>by
  obtain⟨⟨slot,hI,hb⟩,ho⟩:=st
  have hp:t.place.size=es.size:=by
   simp only[SetTable.fits,Bool.and_eq_true,beq_iff_eq] at hf
   exact hf.1
  have hi':i<t.place.size:=by omega
  have i0:i=0:=by omega
  refine st_next (v:=es[i].2) (n:=0) hI ho hf (.inl ⟨slot,t.place[i]+1,rfl,rfl,fun A' Q' E' q=>?_⟩) fun h' g sb=>?_
  ·unfold setNext setsByText
   refine wpAny_bind (wpAny_setState_of ho rfl hf ?_)
   dsimp only
   refine wpAny_bind (wpAny_bind (wpAny_askSetting (wpAny_pure ?_)))
   dsimp only
   rw[show(model prog w).w.params.followText "set-order" = false from hw,if_neg Bool.false_ne_true]
   refine wpAny_ite_split (fun z=>?_) (fun _=>?_)
   ·exfalso
    have z':(!t.plain&&decide (es.size > 1))=true:=z
    simp only[Bool.and_eq_true,decide_eq_true_eq] at z'
    omega
   ·have hm:∀{Q'':Unit→Shared→Prop},Q'' () s→wpAny (model prog w) A' (if (!t.led && !es.isEmpty)=true then unsupported "set:maker-not-led" else pure ()) Q'' E' s:=fun {Q''} q''=>by
     rw[hl]
     exact wpAny_pure q''
    refine wpAny_bind (hm ?_)
    rw[hb]
    rw[Array.getElem?_eq_getElem hi,Array.getElem?_eq_getElem hi']
    exact wpAny_pure q
  ·refine hQ _ h' s.toks (by simp[hi]) ⟨⟨t.place[i]+1,g,?_⟩,(sb.2 a hne).trans ho⟩ fun b o hb e=>(sb.2 b fun z=>hb (by simp[z])).trans e
   have:=(below_one t es hf h1).2 t.place[i] (by subst i0;exact Array.getElem?_eq_getElem hi')
   omega
 done:=fun s Q E st hQ=>by
  obtain⟨⟨slot,hI,hb⟩,ho⟩:=st
  refine st_end hh hI ho hf (.inl ⟨slot,rfl,fun A' Q' E' q=>?_⟩) fun h' eb=>hQ h' s.toks fun b o hb e=>eb b o (fun z=>hb (by simp[z])) e
  unfold setNext setsByText
  refine wpAny_bind (wpAny_setState_of ho rfl hf ?_)
  dsimp only
  refine wpAny_bind (wpAny_bind (wpAny_askSetting (wpAny_pure ?_)))
  dsimp only
  rw[show(model prog w).w.params.followText "set-order" = false from hw,if_neg Bool.false_ne_true]
  refine wpAny_ite_split (fun z=>?_) (fun _=>?_)
  ·exfalso
   have z':(!t.plain&&decide (es.size > 1))=true:=z
   simp only[Bool.and_eq_true,decide_eq_true_eq] at z'
   omega
  ·have hm:∀{Q'':Unit→Shared→Prop},Q'' () s→wpAny (model prog w) A' (if (!t.led && !es.isEmpty)=true then unsupported "set:maker-not-led" else pure ()) Q'' E' s:=fun {Q''} q''=>by
    rw[hl]
    exact wpAny_pure q''
   refine wpAny_bind (hm ?_)
   rw[hb]
   rw[Array.getElem?_eq_none (Nat.le_refl _)]
   exact wpAny_pure q
 self:=fun i s Q E st hQ=>let ⟨⟨x,e,_⟩,_⟩:=st;st_self e hQ
end
end L2
set_option maxHeartbeats 3200000
namespace L2
open PySem PySem.Spec PyProof.Rows
section
variable {prog:Program}{w:World}{A:Around}{E:Value→Shared→Prop}{s:Shared}
theorem st_made (a:Value){Q₁:Value→Shared→Prop}(h:Q₁ (.ref s.heap.objs.size) {s with heap:=s.heap.push (stO #[] 0 (.fresh 0 0 (!w.params.followText "set-order")))}) :
  codeAny (model prog w) A (.call (.builtin "set.__new__") ⟨[.type "set", a],[]⟩) (wants Q₁ E) s:=by
 refine codeAny_of_tree (wpAny_bind (m:=checkBuiltinCall "set.__new__" ⟨[.type "set", a],[]⟩) (wpAny_of_eq (F.newCall_set_1 a) (wpAny_pure ⟨plainId_quiet F.plain_set_new _,codeAny_builtin F.entry_set_new ?_⟩)))
 rw[Around.under_plainId F.plain_set_new]
 unfold Builtin.«set.__new__» Builtin.Frozenset.newClass
 have hs:=sub_set_self
 obtain⟨hp,g,d,tk,os⟩:=s
 dsimp only
 wp_walk
 refine wpAny_askSetting (wpAny_pure ?_)
 dsimp only
 simp only[newObj]
 exact wpAny_bind (wpAny_alloc (wpAny_pure (wpAny_pure h)))
theorem StS.new:StS w #[] (.fresh 0 0 (!w.params.followText "set-order")) [] where
 shape:=fun e he=>by simp at he
 keys:=List.Perm.refl _
 nd:=List.nodup_nil
 fits:=rfl
 led:=rfl
 plain:=.inl rfl
 few:=by decide
theorem st_hint {r:Addr}{Q:Bool→Shared→Prop}(hT:s.TypeIs (.ref r) "set")(h:Q false s):wpAny (model prog w) A (Builtin.List.listLengthHint (.ref r)) Q E s:=by
 unfold Builtin.List.listLengthHint
 refine wpAny_bind (wpAny_specialOf hT F.slot_set_len.lookup ?_)
 generalize hid:("set.__len__" : String)=id0
 wp_delta
 have hsp:splitId id0=some ("set", "__len__"):=by subst hid;decide +kernel
 rw[hsp]
 subst hid
 refine wpAny_bind (wpAny_isInstance (T := "set") (b:=true) hT (by rw[isSubtype_type];kernel_rfl) (wpAny_ite_split (fun z=>absurd z (by decide)) fun _=>?_))
 refine wpAny_ite_split (fun _=>?_) (fun z=>absurd (by decide +kernel) z)
 exact wpAny_bind (wpAny_typeOf hT (wpAny_pure h))
end
end L2
namespace L2
open PySem PySem.Spec PyProof.Rows
end L2
set_option maxHeartbeats 1000000
namespace L2
open PySem PySem.Spec PyProof.Rows
end L2
namespace L2
open PySem PySem.Spec PyProof.Rows
inductive D where
 | non|bl (b:Bool)|int (i:Int)|str (l:List Nat)|lst (xs:List D)|tup (xs:List D)|dct (kvs:List (List Nat×D))|exc (n:Nat)
inductive Rs (α:Type) where
 | ok (a:α)|ex (n:Nat)|no
def Rs.bind {α β:Type}:Rs α→(α→Rs β)→Rs β
 | .ok a,f=>f a
 | .ex n,_=>.ex n
 | .no,_=>.no
inductive Sl where
 | no|fz (d:D)|ow (xs:List D)|od (kvs:List (List Nat×D))|ot (ks:List D)
abbrev Rho:=List Sl
inductive Out where
 | nx (ρ:Rho)|rt (d:D)|bk (ρ:Rho)|ct (ρ:Rho)|ex (n:Nat)|no
mutual
inductive Dt (K:PySem.W.Frag)(cl:Nat→Addr)(F:Hp):V→D→Prop
 | non:Dt K cl F .non .non
 | bl (b:Bool):Dt K cl F (.bl b) (.bl b)
 | int (i:Int):Dt K cl F (.int i) (.int i)
 | str (l:List Nat) (ok:TxtOk (T l)):Dt K cl F (.str (T l)) (.str l)
 | lst {a:Addr}{xs:List V}{ds:List D}:SqL K F a xs→Dts K cl F xs ds→Dt K cl F (.ref a) (.lst ds)
 | tup {a:Addr}{xs:List V}{ds:List D}:SqT K F a xs→Dts K cl F xs ds→Dt K cl F (.ref a) (.tup ds)
 | dct {a:Addr}{kvs:List (Key×V)}{ds:List (List Nat×D)}:F a=some (.dK kvs)→Dks K cl F kvs ds→Dt K cl F (.ref a) (.dct ds)
 | exc {a:Addr}{n:Nat}:F a=some (excAt a (cl n))→Dt K cl F (.ref a) (.exc n)
inductive Dts (K:PySem.W.Frag)(cl:Nat→Addr)(F:Hp):List V→List D→Prop
 | nil:Dts K cl F [] []
 | cons {v:V}{d:D}{vs:List V}{ds:List D}:Dt K cl F v d→Dts K cl F vs ds→Dts K cl F (v::vs) (d::ds)
inductive Dks (K:PySem.W.Frag)(cl:Nat→Addr)(F:Hp):List (Key×V)→List (List Nat×D)→Prop
 | nil:Dks K cl F [] []
 | cons {l:List Nat}{v:V}{d:D}{vs:List (Key×V)}{ds:List (List Nat×D)}:TxtOk (T l)→Dt K cl F v d→Dks K cl F vs ds→Dks K cl F ((Sum.inr (T l),v)::vs) ((l,d)::ds)
end
section
variable {K:PySem.W.Frag}{cl:Nat→Addr}{F F' H H':Hp}
theorem Dt.monos (e:Same F F'):(∀{v:V}{d:D},Dt K cl F v d→Dt K cl F' v d)∧(∀{vs:List V}{ds:List D},Dts K cl F vs ds→Dts K cl F' vs ds)∧(∀{vs:List (Key×V)}{ds:List (List Nat×D)},Dks K cl F vs ds→Dks K cl F' vs ds):=by
 refine⟨fun {v d} h=>?_,fun {vs ds} h=>?_,fun {vs ds} h=>?_⟩
 ·exact Dt.rec (motive_1:=fun v d _=>Dt K cl F' v d) (motive_2:=fun vs ds _=>Dts K cl F' vs ds) (motive_3:=fun vs ds _=>Dks K cl F' vs ds) .non .bl .int .str (fun q _ ih=>.lst (e.seq q) ih) (fun q _ ih=>.tup (e.seqT q) ih) (fun q _ ih=>.dct (e _ _ q) ih) (fun q=>.exc (e _ _ q)) .nil (fun _ _ a b=>.cons a b) .nil (fun ok _ _ a b=>.cons ok a b) h
 ·exact Dts.rec (motive_1:=fun v d _=>Dt K cl F' v d) (motive_2:=fun vs ds _=>Dts K cl F' vs ds) (motive_3:=fun vs ds _=>Dks K cl F' vs ds) .non .bl .int .str (fun q _ ih=>.lst (e.seq q) ih) (fun q _ ih=>.tup (e.seqT q) ih) (fun q _ ih=>.dct (e _ _ q) ih) (fun q=>.exc (e _ _ q)) .nil (fun _ _ a b=>.cons a b) .nil (fun ok _ _ a b=>.cons ok a b) h
 ·exact Dks.rec (motive_1:=fun v d _=>Dt K cl F' v d) (motive_2:=fun vs ds _=>Dts K cl F' vs ds) (motive_3:=fun vs ds _=>Dks K cl F' vs ds) .non .bl .int .str (fun q _ ih=>.lst (e.seq q) ih) (fun q _ ih=>.tup (e.seqT q) ih) (fun q _ ih=>.dct (e _ _ q) ih) (fun q=>.exc (e _ _ q)) .nil (fun _ _ a b=>.cons a b) .nil (fun ok _ _ a b=>.cons ok a b) h
theorem Dt.mono {v:V}{d:D}(h:Dt K cl F v d)(e:Same F F'):Dt K cl F' v d:=(Dt.monos e).1 h
theorem Dts.mono {vs:List V}{ds:List D}(h:Dts K cl F vs ds)(e:Same F F'):Dts K cl F' vs ds:=(Dt.monos e).2.1 h
theorem Dks.mono {vs:List (Key×V)}{ds:List (List Nat×D)}(h:Dks K cl F vs ds)(e:Same F F'):Dks K cl F' vs ds:=(Dt.monos e).2.2 h
theorem Dts.length:∀{vs:List V}{ds:List D},Dts K cl F vs ds→vs.length=ds.length
 | _,_,.nil=>rfl
 | _,_,.cons _ r=>by simp[r.length]
theorem Dts.append:∀{vs ws:List V}{ds es:List D},Dts K cl F vs ds→Dts K cl F ws es→Dts K cl F (vs++ws) (ds++es)
 | _,_,_,_,.nil,s=>s
 | _,_,_,_,.cons r t,s=>.cons r (Dts.append t s)
theorem Dts.get:∀{vs:List V}{ds:List D}{i:Nat}{v:V},Dts K cl F vs ds→vs[i]? = some v→∃d,ds[i]? = some d∧Dt K cl F v d
 | _,_,_,_,.nil,e=>by simp at e
 | _,_,0,_,.cons r _,e=>by simp at e;subst e;exact⟨_,rfl,r⟩
 | _,_,i+1,v,.cons _ t,e=>by
  obtain⟨d,h1,h2⟩:=Dts.get (i:=i) (v:=v) t (by simpa using e)
  exact⟨d,by simpa using h1,h2⟩
theorem Dts.get':∀{vs:List V}{ds:List D}{i:Nat}{d:D},Dts K cl F vs ds→ds[i]? = some d→∃v,vs[i]? = some v∧Dt K cl F v d
 | _,_,_,_,.nil,e=>by simp at e
 | _,_,0,_,.cons r _,e=>by simp at e;subst e;exact⟨_,rfl,r⟩
 | _,_,i+1,d,.cons _ t,e=>by
  obtain⟨v,h1,h2⟩:=Dts.get' (i:=i) (d:=d) t (by simpa using e)
  exact⟨v,by simpa using h1,h2⟩
theorem Dts.take:∀{vs:List V}{ds:List D} (n:Nat),Dts K cl F vs ds→Dts K cl F (vs.take n) (ds.take n)
 | _,_,0,_=>.nil
 | _,_,_+1,.nil=>.nil
 | _,_,n+1,.cons r t=>.cons r (Dts.take n t)
theorem Dts.drop:∀{vs:List V}{ds:List D} (n:Nat),Dts K cl F vs ds→Dts K cl F (vs.drop n) (ds.drop n)
 | _,_,0,r=>r
 | _,_,_+1,.nil=>.nil
 | _,_,n+1,.cons _ t=>Dts.drop n t
def kOf:D→Key
 | .int i=>.inl i
 | .str l=>.inr (T l)
 | _=>.inl 0
def isAt:D→Bool
 | .int _=>true
 | .str _=>true
 | _=>false
def tOf:D→List D
 | .tup ds=>ds
 | _=>[]
def kkOf (d:D):List Key:=(tOf d).map kOf
def isTA:D→Bool
 | .tup ds=>ds.all isAt
 | _=>false
structure Dtk (K:PySem.W.Frag)(cl:Nat→Addr)(F:Hp)(kvs:List (List Key×Addr))(ks:List D):Prop where
 ky:kvs.map (·.1)=ks.map kkOf
 dt:Dts K cl F (kvs.map fun q=>V.ref q.2) ks
 ta:∀d∈ks,isTA d=true
 nd:(ks.map kkOf).Nodup
theorem Dtk.mono {kvs:List (List Key×Addr)}{ks:List D}(h:Dtk K cl F kvs ks)(e:Same F F'):Dtk K cl F' kvs ks:=⟨h.ky,h.dt.mono e,h.ta,h.nd⟩
mutual
def D.py:D→PyData
 | .non=>.none
 | .bl b=>.bool b
 | .int i=>.int i
 | .str l=>.str (T l)
 | .lst xs=>.list (D.pys xs)
 | .tup xs=>.tuple (D.pys xs)
 | .dct _=>.none
 | .exc _=>.none
def D.pys:List D→List PyData
 | []=>[]
 | d::ds=>d.py::D.pys ds
end
mutual
def D.pl:D→Bool
 | .lst xs=>D.pls xs
 | .tup xs=>D.pls xs
 | .dct _=>false
 | .exc _=>false
 | _=>true
def D.pls:List D→Bool
 | []=>true
 | d::ds=>d.pl&&D.pls ds
end
theorem Dt.iss:(∀{v:V}{d:D},Dt K cl F v d→d.pl=true→Is K F v d.py)∧(∀{vs:List V}{ds:List D},Dts K cl F vs ds→D.pls ds=true→Iss K F vs (D.pys ds)):=by
 refine⟨fun {v d} h=>?_,fun {vs ds} h=>?_⟩
 ·exact Dt.rec (motive_1:=fun v d _=>d.pl=true→Is K F v d.py) (motive_2:=fun vs ds _=>D.pls ds=true→Iss K F vs (D.pys ds)) (motive_3:=fun _ _ _=>True) (fun _=>.non) (fun b _=>.bl b) (fun i _=>.int i) (fun l ok _=>.str _ ok) (fun q _ ih p=>.lst q (ih p)) (fun q _ ih p=>.tup q (ih p)) (fun _ _ _ p=>by simp[D.pl] at p) (fun _ p=>by simp[D.pl] at p) (fun _=>.nil)
   (fun _ _ a b p=>by simp only[D.pls,Bool.and_eq_true] at p;exact .cons (a p.1) (b p.2)) trivial (fun _ _ _ _ _=>trivial) h
 ·exact Dts.rec (motive_1:=fun v d _=>d.pl=true→Is K F v d.py) (motive_2:=fun vs ds _=>D.pls ds=true→Iss K F vs (D.pys ds)) (motive_3:=fun _ _ _=>True) (fun _=>.non) (fun b _=>.bl b) (fun i _=>.int i) (fun l ok _=>.str _ ok) (fun q _ ih p=>.lst q (ih p)) (fun q _ ih p=>.tup q (ih p)) (fun _ _ _ p=>by simp[D.pl] at p) (fun _ p=>by simp[D.pl] at p) (fun _=>.nil)
   (fun _ _ a b p=>by simp only[D.pls,Bool.and_eq_true] at p;exact .cons (a p.1) (b p.2)) trivial (fun _ _ _ _ _=>trivial) h
theorem Dt.is {v:V}{d:D}(h:Dt K cl F v d)(p:d.pl=true):Is K F v d.py:=Dt.iss.1 h p
def HO.mu:HO→Bool
 | .tup _=>false
 | .frz _ _=>false
 | _=>true
structure Gr (F H F' H':Hp):Prop where
 ff:Same F F'
 hh:Same H H'
 fh:Same F' H'
 no:∀b o,H b=some o→o.mu=true→F b=none→F' b=none
theorem Gr.refl (h:Same F H):Gr F H F H:=⟨Same.refl _,Same.refl _,h,fun _ _ _ _ q=>q⟩
theorem Gr.trans {F1 H1 F2 H2 F3 H3:Hp}(a:Gr F1 H1 F2 H2)(b:Gr F2 H2 F3 H3):Gr F1 H1 F3 H3 :=
 ⟨a.ff.trans b.ff,a.hh.trans b.hh,b.fh,fun c o hc m q=>b.no c o (a.hh c o hc) m (a.no c o hc m q)⟩
theorem upd_mono {H1 H2:Hp}{p:Addr}{o:HO}(h:Same H1 H2):Same (upd H1 p o) (upd H2 p o):=fun b u e=>by
 by_cases hb:b=p
 ·subst hb;rw[zX] at e ⊢;exact e
 ·rw[zP hb] at e ⊢;exact h b u e
theorem Gr.new {p:Addr}{o:HO}(h:Same F H)(hp:H p=none):Gr F H (upd F p o) (upd H p o) :=
 ⟨Same.upd (h.free hp),Same.upd hp,upd_mono h,fun b o hb m q=>by
  have hne:b≠p:=fun z=>by rw[z,hp] at hb;cases hb
  rw[zP hne];exact q⟩
theorem Gr.newO {p:Addr}{o:HO}(h:Same F H)(hp:H p=none):Gr F H F (upd H p o) :=
 ⟨Same.refl _,Same.upd hp,h.trans (Same.upd hp),fun _ _ _ _ q=>q⟩
def Sl.own:Sl→Bool
 | .ow _=>true
 | .od _=>true
 | .ot _=>true
 | _=>false
theorem Gr.tup {K:PySem.W.Frag}{cl:Nat→Addr}{p:Addr}{vs:List V}{ds:List D}(h:Same F H)(s:Same H H')(q:SqT K H' p vs)(d:Dts K cl F vs ds):∃F',Gr F H F' H'∧Dt K cl F' (.ref p) (.tup ds):=by
 have s2:Same F H':=h.trans s
 have add:∀o:HO,H' p=some o→o.mu=false→Gr F H (fun b=>if b=p then H' b else F b) H'∧Same F (fun b=>if b=p then H' b else F b):=fun o e m=>by
  have ff:Same F (fun b=>if b=p then H' b else F b):=fun b u e'=>by
   show(if b=p then H' b else F b)=some u
   split
   ·exact s2 b u e'
   ·exact e'
  refine⟨⟨ff,s,fun b u e'=>?_,fun b u hb m' q'=>?_⟩,ff⟩
  ·have e2:(if b=p then H' b else F b)=some u:=e'
   split at e2
   ·exact e2
   ·exact s2 b u e2
  ·show (if b=p then H' b else F b)=none
   split
   ·rename_i w
    subst w
    rw[s b u hb] at e
    injection e with e
    rw[e,m] at m'
    cases m'
   ·exact q'
 rcases q with(e|⟨u,e⟩)|q
 ·obtain⟨g,ff⟩:=add _ e rfl
  exact⟨_,g,.tup (.inl (.inl (by show(if p=p then H' p else F p)=_;rw[if_pos rfl];exact e))) (d.mono ff)⟩
 ·obtain⟨g,ff⟩:=add _ e rfl
  exact⟨_,g,.tup (.inl (.inr ⟨u,by show(if p=p then H' p else F p)=_;rw[if_pos rfl];exact e⟩)) (d.mono ff)⟩
 ·exact⟨F,⟨Same.refl _,s,s2,fun _ _ _ _ z=>z⟩,.tup (.inr q) d⟩
inductive Ly (K:PySem.W.Frag)(cl:Nat→Addr)(F:Hp):HO→Sl→Prop
 | ow {vs:List V}{ds:List D}:Dts K cl F vs ds→Ly K cl F (.lst vs) (.ow ds)
 | od {vs:List (Key×V)}{ds:List (List Nat×D)}:Dks K cl F vs ds→Ly K cl F (.dK vs) (.od ds)
 | ot {vs:List (List Key×Addr)}{ds:List D}:Dtk K cl F vs ds→Ly K cl F (.dR vs) (.ot ds)
theorem Ly.mono {o:HO}{s:Sl}(h:Ly K cl F o s)(e:Same F F'):Ly K cl F' o s:=by
 cases h with
 | ow q=>exact .ow (q.mono e)
 | od q=>exact .od (q.mono e)
 | ot q=>exact .ot (q.mono e)
theorem Ly.mu {o:HO}{s:Sl}(h:Ly K cl F o s):o.mu=true:=by cases h <;>rfl
theorem ref_inj {o:Option (Option V)}{a b:Addr}(h:o=some (some (.ref a)))(k:o=some (some (.ref b))):a=b:=by rw[h] at k;injection k with k;injection k with k;injection k
structure Rl (K:PySem.W.Frag)(cl:Nat→Addr)(H0 F0:Hp)(ρ:Rho)(σ:St)(H F:Hp):Prop where
 gr:Gr F0 H0 F H
 len:ρ.length=σ.length
 fz:∀(i:Nat) d,ρ[i]? = some (.fz d)→∃v,σ[i]? = some (some v)∧Dt K cl F v d
 own:∀(i:Nat) s,ρ[i]? = some s→s.own=true→∃a o,σ[i]? = some (some (.ref a))∧H a=some o∧F a=none∧H0 a=none∧Ly K cl F o s
 ap:∀(i j:Nat) s t a,ρ[i]? = some s→ρ[j]? = some t→s.own=true→t.own=true→σ[i]? = some (some (.ref a))→σ[j]? = some (some (.ref a))→i=j
section
variable {H0 F0:Hp}{ρ:Rho}{σ:St}(R:Rl K cl H0 F0 ρ σ H F)
include R
theorem Rl.ow (i:Nat)(ds)(e:ρ[i]? = some (.ow ds)):∃a vs,σ[i]? = some (some (.ref a))∧H a=some (.lst vs)∧F a=none∧H0 a=none∧Dts K cl F vs ds:=by
 obtain⟨a,o,h1,h2,h3,h4,h5⟩:=R.own i _ e rfl
 cases h5 with|ow q=>exact⟨a,_,h1,h2,h3,h4,q⟩
theorem Rl.od (i:Nat)(ds)(e:ρ[i]? = some (.od ds)):∃a vs,σ[i]? = some (some (.ref a))∧H a=some (.dK vs)∧F a=none∧H0 a=none∧Dks K cl F vs ds:=by
 obtain⟨a,o,h1,h2,h3,h4,h5⟩:=R.own i _ e rfl
 cases h5 with|od q=>exact⟨a,_,h1,h2,h3,h4,q⟩
theorem Rl.ot (i:Nat)(ds)(e:ρ[i]? = some (.ot ds)):∃a vs,σ[i]? = some (some (.ref a))∧H a=some (.dR vs)∧F a=none∧H0 a=none∧Dtk K cl F vs ds:=by
 obtain⟨a,o,h1,h2,h3,h4,h5⟩:=R.own i _ e rfl
 cases h5 with|ot q=>exact⟨a,_,h1,h2,h3,h4,q⟩
theorem Rl.grow (g:Gr F H F' H'):Rl K cl H0 F0 ρ σ H' F' where
 gr:=R.gr.trans g
 len:=R.len
 fz:=fun i d e=>let ⟨v,h1,h2⟩:=R.fz i d e;⟨v,h1,h2.mono g.ff⟩
 own:=fun i s e o=>let ⟨a,q,h1,h2,h3,h4,h5⟩:=R.own i s e o;⟨a,q,h1,g.hh _ _ h2,g.no a _ h2 h5.mu h3,h4,h5.mono g.ff⟩
 ap:=R.ap
end
theorem Rl.fh {H0 F0:Hp}{ρ:Rho}{σ:St}(R:Rl K cl H0 F0 ρ σ H F):Same F H:=R.gr.fh
theorem get_set {α:Type}{l:List α}{i j:Nat}{x y:α}(h:(l.set i x)[j]? = some y):(i=j∧y=x∧i<l.length)∨(i≠j∧l[j]? = some y):=by
 by_cases e:i=j
 ·subst e
  rw[List.getElem?_set_self'] at h
  cases q:l[i]? with
  | none=>rw[q] at h;cases h
  | some z =>
   rw[q] at h
   exact .inl ⟨rfl,(Option.some.inj h).symm,(List.getElem?_eq_some_iff.mp q).1⟩
 ·rw[List.getElem?_set_ne e] at h
  exact .inr ⟨e,h⟩
theorem set_get {α:Type}{l:List α}{i:Nat}{x:α}(h:i<l.length):(l.set i x)[i]? = some x:=by rw[List.getElem?_set_self h]
theorem Rl.set {H0 F0:Hp}{ρ:Rho}{σ:St}{i:Nat}{v:V}{d:D}(R:Rl K cl H0 F0 ρ σ H F)(h:Dt K cl F v d):Rl K cl H0 F0 (ρ.set i (.fz d)) (σ.set i (some v)) H F where
 gr:=R.gr
 len:=by simp[R.len]
 fz := fun j e z=>by
  rcases get_set z with⟨rfl,q,hl⟩|⟨hj,q⟩
  ·injection q with q;subst q
   exact⟨v,set_get (R.len▸hl),h⟩
  ·rw[List.getElem?_set_ne hj];exact R.fz j e q
 own:=fun j s z o=>by
  rcases get_set z with⟨rfl,q,hl⟩|⟨hj,q⟩
  ·subst q;cases o
  ·rw[List.getElem?_set_ne hj];exact R.own j s q o
 ap := fun j k s t a z1 z2 o1 o2 e1 e2=>by
  rcases get_set z1 with⟨rfl,q,hl⟩|⟨hj,q⟩
  ·subst q;cases o1
  ·rcases get_set z2 with⟨rfl,q2,hl⟩|⟨hk,q2⟩
   ·subst q2;cases o2
   ·rw[List.getElem?_set_ne hj] at e1;rw[List.getElem?_set_ne hk] at e2
    exact R.ap j k s t a q q2 o1 o2 e1 e2
theorem Rl.apart {H0 F0:Hp}{ρ:Rho}{σ:St}(R:Rl K cl H0 F0 ρ σ H F){j:Nat}{s:Sl}{a:Addr}(e:ρ[j]? = some s)(o:s.own=true)(z:σ[j]? = some (some (.ref a))):H a≠none:=by
 obtain⟨b,q,h1,h2,_⟩:=R.own j s e o
 rw[ref_inj z h1,h2];exact fun z=>nomatch z
theorem Rl.ownN {H0 F0:Hp}{ρ:Rho}{σ:St}{i:Nat}{p:Addr}{o:HO}{s:Sl}{H' F':Hp}(R:Rl K cl H0 F0 ρ σ H F)(g:Gr F H F' H')(hp:H p=none)(h2:H' p=some o)(h3:F' p=none)(h:Ly K cl F' o s):Rl K cl H0 F0 (ρ.set i s) (σ.set i (some (.ref p))) H' F' where
 gr:=R.gr.trans g
 len:=by simp[R.len]
 fz:=fun j e z=>by
  rcases get_set z with⟨rfl,q,hl⟩|⟨hj,q⟩
  ·subst q;cases h
  ·rw[List.getElem?_set_ne hj];exact(R.grow g).fz j e q
 own:=fun j e z w=>by
  rcases get_set z with⟨rfl,q,hl⟩|⟨hj,q⟩
  ·subst q
   exact⟨p,o,set_get (R.len▸hl),h2,h3,R.gr.hh.free hp,h⟩
  ·rw[List.getElem?_set_ne hj];exact(R.grow g).own j e q w
 ap := fun j k s t a z1 z2 o1 o2 e1 e2=>by
  rcases get_set z1 with⟨rfl,q,hl⟩|⟨hj,q⟩
  ·rcases get_set z2 with⟨rfl,q2,hl2⟩|⟨hk,q2⟩
   ·rfl
   ·rw[set_get (R.len▸hl)] at e1;rw[List.getElem?_set_ne hk] at e2
    exact absurd (ref_inj e1 rfl▸hp) (R.apart q2 o2 e2)
  ·rcases get_set z2 with⟨rfl,q2,hl2⟩|⟨hk,q2⟩
   ·rw[set_get (R.len▸hl2)] at e2;rw[List.getElem?_set_ne hj] at e1
    exact absurd (ref_inj e2 rfl▸hp) (R.apart q o1 e1)
   ·rw[List.getElem?_set_ne hj] at e1;rw[List.getElem?_set_ne hk] at e2
    exact R.ap j k s t a q q2 o1 o2 e1 e2
theorem Rl.newOwn {H0 F0:Hp}{ρ:Rho}{σ:St}{i:Nat}{p:Addr}{o:HO}{s:Sl}(R:Rl K cl H0 F0 ρ σ H F)(hp:H p=none)(h:Ly K cl F o s):Rl K cl H0 F0 (ρ.set i s) (σ.set i (some (.ref p))) (upd H p o) F:=R.ownN (Gr.newO R.fh hp) hp zX (R.fh.free hp) h
theorem Rl.setO {H0 F0:Hp}{ρ:Rho}{σ:St}{i:Nat}{p:Addr}{vs:List V}{ds:List D}(R:Rl K cl H0 F0 ρ σ H F)(hp:H p=none)(h:Dts K cl F vs ds):Rl K cl H0 F0 (ρ.set i (.ow ds)) (σ.set i (some (.ref p))) (upd H p (.lst vs)) F:=R.newOwn hp (.ow h)
theorem Rl.chg {H0 F0:Hp}{ρ:Rho}{σ:St}{i:Nat}{a:Addr}{o:HO}{s t:Sl}(R:Rl K cl H0 F0 ρ σ H F)(hi:ρ[i]? = some s)(hw:s.own=true)(hs:σ[i]? = some (some (.ref a)))(h:Ly K cl F o t):Rl K cl H0 F0 (ρ.set i t) σ (upd H a o) F:=by
 obtain⟨b,w,h1,h2,h3,h4,_⟩:=R.own i s hi hw
 obtain rfl:=ref_inj hs h1
 have far:∀(j:Nat) (s:Sl) (c:Addr),j≠i→ρ[j]? = some s→s.own=true→σ[j]? = some (some (.ref c))→c≠a:=fun j s c hj e o z w=>hj (R.ap j i s _ a e hi o hw (w▸z) hs)
 refine⟨⟨R.gr.ff,fun c o e=>?_,fun c o e=>?_,R.gr.no⟩,by simp[R.len],fun j e z=>?_,fun j e z q=>?_,fun j k s1 t1 c z1 z2 o1 o2 e1 e2=>?_⟩
 ·rw[zP (fun w=>by rw[w,h4] at e;cases e)];exact R.gr.hh c o e
 ·rw[zP (fun w=>by rw[w,h3] at e;cases e)];exact R.fh c o e
 ·rcases get_set z with⟨rfl,q,hl⟩|⟨hj,q⟩
  ·subst q;cases h
  ·exact R.fz j e q
 ·rcases get_set z with⟨rfl,w,hl⟩|⟨hj,w⟩
  ·subst w
   exact⟨a,o,hs,zX,h3,h4,h⟩
  ·obtain⟨c,x,k1,k2,k3⟩:=R.own j e w q
   exact⟨c,x,k1,by rw[zP (far j _ c (Ne.symm hj) w q k1)];exact k2,k3⟩
 ·have own:∀(j:Nat) (r:Sl),(ρ.set i t)[j]? = some r→r.own=true→∃s',ρ[j]? = some s'∧s'.own=true:=fun j r z o=>by
   rcases get_set z with⟨rfl,q,hl⟩|⟨hj,q⟩
   ·exact⟨_,hi,hw⟩
   ·exact⟨r,q,o⟩
  obtain⟨s',q1,p1⟩:=own j _ z1 o1
  obtain⟨t',q2,p2⟩:=own k _ z2 o2
  exact R.ap j k s' t' c q1 q2 p1 p2 e1 e2
theorem Rl.put {H0 F0:Hp}{ρ:Rho}{σ:St}{i:Nat}{a:Addr}{us:List V}{ds es:List D}(R:Rl K cl H0 F0 ρ σ H F)(hi:ρ[i]? = some (.ow ds))(hs:σ[i]? = some (some (.ref a)))(h:Dts K cl F us es):Rl K cl H0 F0 (ρ.set i (.ow es)) σ (upd H a (.lst us)) F:=R.chg hi rfl hs (.ow h)
theorem Rl.let {H0 F0:Hp}{ρ:Rho}{σ:St}{i:Nat}{s:Sl}{d:D}(R:Rl K cl H0 F0 ρ σ H F)(hi:ρ[i]? = some s)(hw:s.own=true)(hd:∀a o F,Ly K cl F o s→F a=some o→Dt K cl F (.ref a) d):∃F',Same F F'∧Rl K cl H0 F0 (ρ.set i (.fz d)) σ H F':=by
 obtain⟨a,o,h1,h2,h3,h4,h5⟩:=R.own i s hi hw
 have sm:Same F (upd F a o):=Same.upd h3
 have far:∀(j:Nat) (s:Sl) (c:Addr),j≠i→ρ[j]? = some s→s.own=true→σ[j]? = some (some (.ref c))→c≠a:=fun j s c hj e o z w=>hj (R.ap j i s _ a e hi o hw (w▸z) h1)
 refine⟨upd F a o,sm,⟨⟨R.gr.ff.trans sm,R.gr.hh,fun c o e=>?_,fun c o hc m q=>?_⟩,by simp[R.len],fun j e z=>?_,fun j e z w=>?_,fun j k s t c z1 z2 o1 o2 e1 e2=>?_⟩⟩
 ·by_cases w:c=a
  ·subst w;rw[zX] at e;rw[← e];exact h2
  ·rw[zP w] at e;exact R.fh c o e
 ·have hne:c≠a:=fun w=>by rw[w,h4] at hc;cases hc
  rw[zP hne];exact R.gr.no c o hc m q
 ·rcases get_set z with⟨rfl,q,hl⟩|⟨hj,q⟩
  ·injection q with q;subst q
   exact⟨.ref a,h1,hd a o _ (h5.mono sm) zX⟩
  ·obtain⟨v,k1,k2⟩:=R.fz j e q
   exact⟨v,k1,k2.mono sm⟩
 ·rcases get_set z with⟨rfl,q,hl⟩|⟨hj,q⟩
  ·subst q;cases w
  ·obtain⟨c,xs,k1,k2,k3,k4,k5⟩:=R.own j e q w
   exact⟨c,xs,k1,k2,by rw[zP (far j _ c (Ne.symm hj) q w k1)];exact k3,k4,k5.mono sm⟩
 ·rcases get_set z1 with⟨rfl,q,hl⟩|⟨hj,q⟩
  ·subst q;cases o1
  ·rcases get_set z2 with⟨rfl,q2,hl⟩|⟨hk,q2⟩
   ·subst q2;cases o2
   ·exact R.ap j k s t c q q2 o1 o2 e1 e2
theorem Rl.ice {H0 F0:Hp}{ρ:Rho}{σ:St}{i:Nat}{ds:List D}(R:Rl K cl H0 F0 ρ σ H F)(hi:ρ[i]? = some (.ow ds)):∃F',Same F F'∧Rl K cl H0 F0 (ρ.set i (.fz (.lst ds))) σ H F':=R.let hi rfl fun a o F l e=>by
 cases l with|ow q=>exact .lst (.inl (.inl e)) q
end
end L2
namespace L2
open PySem PySem.Spec PyProof.Rows
def OutE (K:PySem.W.Frag)(cl:Nat→Addr)(E:XK)(H0 F H:Hp)(r:Rs D)(Q:VK):Prop :=
 match r with
 | .ok d=>∀v H' F',Gr F H F' H'→Dt K cl F' v d→Q v H'
 | .ex n=>∀H',Same H0 H'→E (.ref (cl n)) none H'
 | .no=>False
def OutA (K:PySem.W.Frag)(cl:Nat→Addr)(E:XK)(H0 F H:Hp)(r:Rs (List D))(Q:List V→Hp→Prop):Prop :=
 match r with
 | .ok ds=>∀vs H' F',Gr F H F' H'→Dts K cl F' vs ds→Q vs H'
 | .ex n=>∀H',Same H0 H'→E (.ref (cl n)) none H'
 | .no=>False
def OutB (K:PySem.W.Frag)(cl:Nat→Addr)(E:XK)(H0 F H:Hp)(r:Rs Bool)(Q:Bool→Hp→Prop):Prop :=
 match r with
 | .ok b=>∀H' F',Gr F H F' H'→Q b H'
 | .ex n=>∀H',Same H0 H'→E (.ref (cl n)) none H'
 | .no=>False
def OutS (K:PySem.W.Frag)(cl:Nat→Addr)(E:XK)(H0 F0 F:Hp)(o:Out)(Dn:Ends):Prop :=
 match o with
 | .nx ρ=>∀σ H F',Rl K cl H0 F0 ρ σ H F'→Same F F'→Dn.nx σ H
 | .rt d=>∀v H F',Gr F0 H0 F' H→Dt K cl F' v d→Dn.rt v H
 | .bk ρ=>∀σ H F',Rl K cl H0 F0 ρ σ H F'→Same F F'→Dn.bk σ H
 | .ct ρ=>∀σ H F',Rl K cl H0 F0 ρ σ H F'→Same F F'→Dn.ct σ H
 | .ex n=>∀H',Same H0 H'→E (.ref (cl n)) none H'
 | .no=>False
def XE' (X:Cx)(cl:Nat→Addr)(E:XK)(e:Expr)(f:Rho→Rs D):Prop :=
 ∃t:TE,PE X e t∧∀(H0 F0:Hp) (ρ:Rho) (σ:St) (H F:Hp) (Q:VK),Rl X.K cl H0 F0 ρ σ H F→OutE X.K cl E H0 F H (f ρ) Q→t σ H Q
def XA' (X:Cx)(cl:Nat→Addr)(E:XK)(es:List Expr)(f:Rho→Rs (List D)):Prop :=
 ∃t:TA,PA X es t∧∀(H0 F0:Hp) (ρ:Rho) (σ:St) (H F:Hp) (Q:List V→Hp→Prop),Rl X.K cl H0 F0 ρ σ H F→OutA X.K cl E H0 F H (f ρ) Q→t σ H Q
def XT' (X:Cx)(cl:Nat→Addr)(E:XK)(e:Expr)(f:Rho→Rs Bool):Prop :=
 ∃t:TT,PT X e t∧∀(H0 F0:Hp) (ρ:Rho) (σ:St) (H F:Hp) (Q:Bool→Hp→Prop),Rl X.K cl H0 F0 ρ σ H F→OutB X.K cl E H0 F H (f ρ) Q→t σ H Q
def XW' (X:Cx)(cl:Nat→Addr)(E:XK)(e:Expr)(f:Rho→Rs Bool):Prop :=
 ∃t:TT,PW X e t∧∀(H0 F0:Hp) (ρ:Rho) (σ:St) (H F:Hp) (Q:Bool→Hp→Prop),Rl X.K cl H0 F0 ρ σ H F→OutB X.K cl E H0 F H (f ρ) Q→t σ H Q
def XO' (X:Cx)(cl:Nat→Addr)(E:XK)(e:Option Expr)(f:Rho→Rs (Option Int)):Prop :=
 ∃ t:TO,PO X e t∧∀(H0 F0:Hp) (ρ:Rho) (σ:St) (H F:Hp) (Q:Option Int→Hp→Prop),Rl X.K cl H0 F0 ρ σ H F →
  (match f ρ with | .ok o=>∀H' F',Gr F H F' H'→Q o H' | .ex n=>∀H',Same H0 H'→E (.ref (cl n)) none H' | .no=>False)→t σ H Q
def tDE (K:PySem.W.Frag)(cl:Nat→Addr)(E:XK)(f:Rho→Rs D):TE:=fun σ H Q=>∃H0 F0 ρ F,Rl K cl H0 F0 ρ σ H F∧OutE K cl E H0 F H (f ρ) Q
def tDA (K:PySem.W.Frag)(cl:Nat→Addr)(E:XK)(f:Rho→Rs (List D)):TA:=fun σ H Q=>∃H0 F0 ρ F,Rl K cl H0 F0 ρ σ H F∧OutA K cl E H0 F H (f ρ) Q
def tDB (K:PySem.W.Frag)(cl:Nat→Addr)(E:XK)(f:Rho→Rs Bool):TT:=fun σ H Q=>∃H0 F0 ρ F,Rl K cl H0 F0 ρ σ H F∧OutB K cl E H0 F H (f ρ) Q
def XE (X:Cx)(cl:Nat→Addr)(E:XK)(e:Expr)(f:Rho→Rs D):Prop:=PE X e (tDE X.K cl E f)
def XA (X:Cx)(cl:Nat→Addr)(E:XK)(es:List Expr)(f:Rho→Rs (List D)):Prop:=PA X es (tDA X.K cl E f)
def XT (X:Cx)(cl:Nat→Addr)(E:XK)(e:Expr)(f:Rho→Rs Bool):Prop:=PT X e (tDB X.K cl E f)
def XW (X:Cx)(cl:Nat→Addr)(E:XK)(e:Expr)(f:Rho→Rs Bool):Prop:=PW X e (tDB X.K cl E f)
section
variable {X:Cx}{cl:Nat→Addr}{E:XK}
theorem XE.ex {e:Expr}{f:Rho→Rs D}(h:XE X cl E e f):XE' X cl E e f:=⟨_,h,fun H0 F0 ρ σ H F Q R o=>⟨H0,F0,ρ,F,R,o⟩⟩
theorem XA.ex {e:List Expr}{f:Rho→Rs (List D)}(h:XA X cl E e f):XA' X cl E e f:=⟨_,h,fun H0 F0 ρ σ H F Q R o=>⟨H0,F0,ρ,F,R,o⟩⟩
theorem XT.ex {e:Expr}{f:Rho→Rs Bool}(h:XT X cl E e f):XT' X cl E e f:=⟨_,h,fun H0 F0 ρ σ H F Q R o=>⟨H0,F0,ρ,F,R,o⟩⟩
theorem XW.ex {e:Expr}{f:Rho→Rs Bool}(h:XW X cl E e f):XW' X cl E e f:=⟨_,h,fun H0 F0 ρ σ H F Q R o=>⟨H0,F0,ρ,F,R,o⟩⟩
theorem XE'.out {e:Expr}{f:Rho→Rs D}(h:XE' X cl E e f):XE X cl E e f:=let ⟨_,pt,rt⟩:=h;fun pins s σ H Q I ⟨H0,F0,ρ,F,R,o⟩=>pt pins s σ H Q I (rt H0 F0 ρ σ H F Q R o)
theorem XA'.out {e:List Expr}{f:Rho→Rs (List D)}(h:XA' X cl E e f):XA X cl E e f:=let ⟨_,pt,rt⟩:=h;fun pos pins s σ H Q I ⟨H0,F0,ρ,F,R,o⟩=>pt pos pins s σ H Q I (rt H0 F0 ρ σ H F Q R o)
theorem XT'.out {e:Expr}{f:Rho→Rs Bool}(h:XT' X cl E e f):XT X cl E e f:=let ⟨_,pt,rt⟩:=h;fun pins s σ H Q I ⟨H0,F0,ρ,F,R,o⟩=>pt pins s σ H Q I (rt H0 F0 ρ σ H F Q R o)
theorem XW'.out {e:Expr}{f:Rho→Rs Bool}(h:XW' X cl E e f):XW X cl E e f:=let ⟨_,pt,rt⟩:=h;fun whole pins s σ H Q I ⟨H0,F0,ρ,F,R,o⟩=>pt whole pins s σ H Q I (rt H0 F0 ρ σ H F Q R o)
end
def fC (d:D):Rho→Rs D:=fun _=>.ok d
def fNm (i:Nat):Rho→Rs D:=fun ρ=>match ρ[i]? with|some (.fz d)=>.ok d|_=>.no
def lf:Option D→Rs D
 | some d=>.ok d
 | none=>.no
def f1 (g:D→Option D)(fa:Rho→Rs D):Rho→Rs D:=fun ρ=>(fa ρ).bind fun a=>lf (g a)
def f2 (g:D→D→Option D)(fa fb:Rho→Rs D):Rho→Rs D:=fun ρ=>(fa ρ).bind fun a=>(fb ρ).bind fun b=>lf (g a b)
def zE:Rho→Rs (List D):=fun _=>.ok []
def zj (fa:Rho→Rs D)(fs:Rho→Rs (List D)):Rho→Rs (List D):=fun ρ=>(fa ρ).bind fun a=>(fs ρ).bind fun as=>.ok (a::as)
def fO (g:List D→Option D)(fs:Rho→Rs (List D)):Rho→Rs D:=fun ρ=>(fs ρ).bind fun as=>lf (g as)
def fA (g:List D→Rs D)(fs:Rho→Rs (List D)):Rho→Rs D:=fun ρ=>(fs ρ).bind g
def fIf (ft:Rho→Rs Bool)(fa fb:Rho→Rs D):Rho→Rs D:=fun ρ=>(ft ρ).bind fun b=>if b=true then fa ρ else fb ρ
def tru:D→Rs Bool
 | .bl b=>.ok b
 | _=>.no
def bT (fa:Rho→Rs D):Rho→Rs Bool:=fun ρ=>(fa ρ).bind tru
def bNot (ft:Rho→Rs Bool):Rho→Rs Bool:=fun ρ=>(ft ρ).bind fun b=>.ok (!b)
def bAnd (fa fb:Rho→Rs Bool):Rho→Rs Bool:=fun ρ=>(fa ρ).bind fun b=>if b=true then fb ρ else .ok false
def bOr (fa fb:Rho→Rs Bool):Rho→Rs Bool:=fun ρ=>(fa ρ).bind fun b=>if b=true then .ok true else fb ρ
def fAnd (fa fb:Rho→Rs D):Rho→Rs D:=fun ρ=>(fa ρ).bind fun a=>(tru a).bind fun b=>if b=true then fb ρ else .ok (.bl false)
def fOr (fa fb:Rho→Rs D):Rho→Rs D:=fun ρ=>(fa ρ).bind fun a=>(tru a).bind fun b=>if b=true then .ok (.bl true) else fb ρ
def fNot (fa:Rho→Rs D):Rho→Rs D:=fun ρ=>(fa ρ).bind fun a=>(tru a).bind fun b=>.ok (.bl (!b))
section
variable {K:PySem.W.Frag}{cl:Nat→Addr}{E:XK}{H0 F0 F H F1 H1:Hp}{ρ:Rho}{σ:St}
theorem OutE.grow {r:Rs D}{Q:VK}(h:OutE K cl E H0 F H r Q)(g:Gr F H F1 H1):OutE K cl E H0 F1 H1 r Q:=by
 cases r with
 | ok d=>exact fun v H' F' g' q=>h v H' F' (g.trans g') q
 | ex n=>exact h
 | no=>exact h
theorem OutA.grow {r:Rs (List D)}{Q:List V→Hp→Prop}(h:OutA K cl E H0 F H r Q)(g:Gr F H F1 H1):OutA K cl E H0 F1 H1 r Q:=by
 cases r with
 | ok d=>exact fun v H' F' g' q=>h v H' F' (g.trans g') q
 | ex n=>exact h
 | no=>exact h
theorem OutB.grow {r:Rs Bool}{Q:Bool→Hp→Prop}(h:OutB K cl E H0 F H r Q)(g:Gr F H F1 H1):OutB K cl E H0 F1 H1 r Q:=by
 cases r with
 | ok d=>exact fun H' F' g'=>h H' F' (g.trans g')
 | ex n=>exact h
 | no=>exact h
theorem OutE.fst {r:Rs D}{g:D→Rs D}{Q P:VK}(h:OutE K cl E H0 F H (r.bind g) Q)(k:∀d v H1 F1,Gr F H F1 H1→Dt K cl F1 v d→OutE K cl E H0 F1 H1 (g d) Q→P v H1):OutE K cl E H0 F H r P:=by
 cases r with
 | ok d=>exact fun v H' F' g' q=>k d v H' F' g' q (h.grow g')
 | ex n=>exact h
 | no=>exact h
theorem OutE.fstA {r:Rs D}{g:D→Rs (List D)}{Q:List V→Hp→Prop}{P:VK}(h:OutA K cl E H0 F H (r.bind g) Q)(k:∀d v H1 F1,Gr F H F1 H1→Dt K cl F1 v d→OutA K cl E H0 F1 H1 (g d) Q→P v H1):OutE K cl E H0 F H r P:=by
 cases r with
 | ok d=>exact fun v H' F' g' q=>k d v H' F' g' q (h.grow g')
 | ex n=>exact h
 | no=>exact h
theorem OutA.fst {r:Rs (List D)}{g:List D→Rs D}{Q:VK}{P:List V→Hp→Prop}(h:OutE K cl E H0 F H (r.bind g) Q)(k:∀d v H1 F1,Gr F H F1 H1→Dts K cl F1 v d→OutE K cl E H0 F1 H1 (g d) Q→P v H1):OutA K cl E H0 F H r P:=by
 cases r with
 | ok d=>exact fun v H' F' g' q=>k d v H' F' g' q (h.grow g')
 | ex n=>exact h
 | no=>exact h
theorem OutA.fstA {r:Rs (List D)}{g:List D→Rs (List D)}{Q P:List V→Hp→Prop}(h:OutA K cl E H0 F H (r.bind g) Q)(k:∀d v H1 F1,Gr F H F1 H1→Dts K cl F1 v d→OutA K cl E H0 F1 H1 (g d) Q→P v H1):OutA K cl E H0 F H r P:=by
 cases r with
 | ok d=>exact fun v H' F' g' q=>k d v H' F' g' q (h.grow g')
 | ex n=>exact h
 | no=>exact h
theorem OutE.fstB {r:Rs D}{g:D→Rs Bool}{Q:Bool→Hp→Prop}{P:VK}(h:OutB K cl E H0 F H (r.bind g) Q)(k:∀d v H1 F1,Gr F H F1 H1→Dt K cl F1 v d→OutB K cl E H0 F1 H1 (g d) Q→P v H1):OutE K cl E H0 F H r P:=by
 cases r with
 | ok d=>exact fun v H' F' g' q=>k d v H' F' g' q (h.grow g')
 | ex n=>exact h
 | no=>exact h
theorem OutB.fst {r:Rs Bool}{g:Bool→Rs D}{Q:VK}{P:Bool→Hp→Prop}(h:OutE K cl E H0 F H (r.bind g) Q)(k:∀b H1 F1,Gr F H F1 H1→OutE K cl E H0 F1 H1 (g b) Q→P b H1):OutB K cl E H0 F H r P:=by
 cases r with
 | ok d=>exact fun H' F' g'=>k d H' F' g' (h.grow g')
 | ex n=>exact h
 | no=>exact h
theorem OutB.fstB {r:Rs Bool}{g:Bool→Rs Bool}{Q P:Bool→Hp→Prop}(h:OutB K cl E H0 F H (r.bind g) Q)(k:∀b H1 F1,Gr F H F1 H1→OutB K cl E H0 F1 H1 (g b) Q→P b H1):OutB K cl E H0 F H r P:=by
 cases r with
 | ok d=>exact fun H' F' g'=>k d H' F' g' (h.grow g')
 | ex n=>exact h
 | no=>exact h
theorem OutE.okI {d:D}{v:V}{Q:VK}(h:OutE K cl E H0 F H (.ok d) Q)(s:Same F H)(q:Dt K cl F v d):Q v H:=h v H F (Gr.refl s) q
theorem tru_some {v:V}{d:D}{b:Bool}(q:Dt K cl F v d)(h:tru d=.ok b):v=.bl b:=by
 cases q <;>simp[tru] at h
 subst h;rfl
end
section
variable {X:Cx}{cl:Nat→Addr}{E:XK}{a b:Expr}{fa fb fc:Rho→Rs D}{pos:Pos}
theorem xe_c {e:Expr}{v:V}{d:D}(h:PE X e (tC v))(q:∀F,Dt X.K cl F v d):XE X cl E e (fC d):=XE'.out ⟨_,h,fun H0 F0 ρ σ H F Q R o=>o.okI R.fh (q F)⟩
theorem zH {i j pos}:XE X cl E (.Constant (.int i) j pos) (fC (.int i)):=xe_c pe_int fun _=>.int i
theorem xe_bl {b j pos}:XE X cl E (.Constant (.bool b) j pos) (fC (.bl b)):=xe_c pe_bl fun _=>.bl b
theorem xe_non {j pos}:XE X cl E (.Constant .none j pos) (fC .non):=xe_c pe_non fun _=>.non
theorem xe_str {x:Str}{j pos}{l:List Nat}(h:x=T l)(ok:TxtOk (T l)):XE X cl E (.Constant (.str x) j pos) (fC (.str l)):=by subst h;exact xe_c pe_str fun _=>.str l ok
theorem xe_nm (i:Nat){e:Expr}(h:PE X e (tVar i)):XE X cl E e (fNm i):=XE'.out ⟨_,h,fun H0 F0 ρ σ H F Q R o=>by
 unfold fNm at o
 split at o
 ·rename_i d e
  obtain⟨v,h1,h2⟩:=R.fz i d e
  exact⟨v,h1,o.okI R.fh h2⟩
 ·exact o.elim⟩
theorem zm:XA X cl E [] zE:=XA'.out ⟨_,pa_nil,fun H0 F0 ρ σ H F Q R o=>o [] H F (Gr.refl R.fh) .nil⟩
theorem zf {e:Expr}{es:List Expr}{fs:Rho→Rs (List D)}(ha:XE X cl E e fa)(hr:XA X cl E es fs)(hs:starEach (e::es) X.env=(false,eval e X.env)::starEach es X.env):XA X cl E (e::es) (zj fa fs):=by
 obtain⟨t,pt,rt⟩:=ha.ex
 obtain⟨u,pu,ru⟩:=hr.ex
 refine XA'.out ⟨_,yU pt pu hs,fun H0 F0 ρ σ H F Q R o=>rt H0 F0 ρ σ H F _ R (OutE.fstA o fun d v H1 F1 g q o1=>?_)⟩
 refine ru H0 F0 ρ σ H1 F1 _ (R.grow g) (OutA.fstA o1 fun ds vs H2 F2 g2 q2 o2=>?_)
 exact o2 (v::vs) H2 F2 (Gr.refl (R.grow (g.trans g2)).fh) (.cons (q.mono g2.ff) q2)
def Op2 (K:PySem.W.Frag)(cl:Nat→Addr)(r:R2)(g:D→D→Option D):Prop :=
 ∀(F H:Hp) (x y:V) (a b d:D) (Q:VK),Same F H→Dt K cl F x a→Dt K cl F y b→g a b=some d→(∀v H' F',Gr F H F' H'→Dt K cl F' v d→Q v H')→r x y H Q
theorem OutE.lf {K:PySem.W.Frag}{cl:Nat→Addr}{E:XK}{H0 F H:Hp}{o:Option D}{Q:VK}(h:OutE K cl E H0 F H (lf o) Q):∃d,o=some d∧∀v H' F',Gr F H F' H'→Dt K cl F' v d→Q v H':=by
 cases o with
 | none=>exact h.elim
 | some d=>exact⟨d,rfl,h⟩
theorem yp {op:Operator}{r:R2}{g:D→D→Option D}(ho:OpR X (binaryOp op) r)(hg:Op2 X.K cl r g)(ha:XE X cl E a fa)(hb:XE X cl E b fb):XE X cl E (.BinOp a op b pos) (f2 g fa fb):=by
 obtain⟨t,pt,rt⟩:=ha.ex
 obtain⟨u,pu,ru⟩:=hb.ex
 refine XE'.out ⟨_,pe_op ho pt pu,fun H0 F0 ρ σ H F Q R o=>rt H0 F0 ρ σ H F _ R (OutE.fst o fun d v H1 F1 g1 q o1=>?_)⟩
 refine ru H0 F0 ρ σ H1 F1 _ (R.grow g1) (OutE.fst o1 fun e w H2 F2 g2 q2 o2=>?_)
 obtain⟨z,hz,k⟩:=o2.lf
 exact hg F2 H2 v w d e z _ (R.grow (g1.trans g2)).fh (q.mono g2.ff) q2 hz k
theorem xe_cmp {op:CmpOp}{r:R2}{g:D→D→Option D}(ho:OpR X (compareOp op) r)(hg:Op2 X.K cl r g)(ha:XE X cl E a fa)(hb:XE X cl E b fb)(hm:behindInMarks op b=false):XE X cl E (.Compare a [op] [b] pos) (f2 g fa fb):=by
 obtain⟨t,pt,rt⟩:=ha.ex
 obtain⟨u,pu,ru⟩:=hb.ex
 refine XE'.out ⟨_,pe_cmpR ho pt pu hm,fun H0 F0 ρ σ H F Q R o=>rt H0 F0 ρ σ H F _ R (OutE.fst o fun d v H1 F1 g1 q o1=>?_)⟩
 refine ru H0 F0 ρ σ H1 F1 _ (R.grow g1) (OutE.fst o1 fun e w H2 F2 g2 q2 o2=>?_)
 obtain⟨z,hz,k⟩:=o2.lf
 exact hg F2 H2 v w d e z _ (R.grow (g1.trans g2)).fh (q.mono g2.ff) q2 hz k
theorem yW {op:CmpOp}{r:R2}{g:D→D→Option D}(ho:OpR X (compareOp op) r)(hg:Op2 X.K cl r g)(ha:XE X cl E a fa)(hb:XE X cl E b fb)(hm:behindInMarks op b=false):XT X cl E (.Compare a [op] [b] pos) (bT (f2 g fa fb)):=by
 obtain⟨t,pt,rt⟩:=ha.ex
 obtain⟨u,pu,ru⟩:=hb.ex
 refine XT'.out ⟨_,pt_cmpR ho pt pu hm,fun H0 F0 ρ σ H F Q R o=>?_⟩
 have o':OutE X.K cl E H0 F H (f2 g fa fb ρ) fun v H1=>∃k,v=.bl k∧Q k H1:=OutE.fstB o fun d v H1 F1 g1 q o1=>by
  cases e:tru d with
  | ok b=>rw[e] at o1;exact⟨b,tru_some q e,o1 H1 F1 (Gr.refl (R.grow g1).fh)⟩
  | ex n=>cases d <;>simp[tru] at e
  | no=>rw[e] at o1;exact o1.elim
 refine rt H0 F0 ρ σ H F _ R (OutE.fst o' fun d v H1 F1 g1 q o1=>?_)
 refine ru H0 F0 ρ σ H1 F1 _ (R.grow g1) (OutE.fst o1 fun e w H2 F2 g2 q2 o2=>?_)
 obtain⟨z,hz,k⟩:=o2.lf
 exact hg F2 H2 v w d e z _ (R.grow (g1.trans g2)).fh (q.mono g2.ff) q2 hz k
theorem OutB.bT {ρ:Rho}{H0 F0 H F:Hp}{σ:St}{Q:Bool→Hp→Prop}(R:Rl X.K cl H0 F0 ρ σ H F)(o:OutB X.K cl E H0 F H (bT fa ρ) Q):OutE X.K cl E H0 F H (fa ρ) fun v H1=>∃k,v=.bl k∧Q k H1:=OutE.fstB o fun d v H1 F1 g1 q o1=>by
  cases e:tru d with
  | ok b=>rw[e] at o1;exact⟨b,tru_some q e,o1 H1 F1 (Gr.refl (R.grow g1).fh)⟩
  | ex n=>cases d <;>simp[tru] at e
  | no=>rw[e] at o1;exact o1.elim
theorem xt_val {e:Expr}(h:XE X cl E e fa)(he:∀whole,isTrue e X.env whole=(do let v ← whole;standAt e.pos;holding [v] (truthy v)):=by intro _;rfl):XT X cl E e (bT fa):=by
 obtain⟨t,pt,rt⟩:=h.ex
 exact XT'.out ⟨_,pt_val pt he,fun H0 F0 ρ σ H F Q R o=>rt H0 F0 ρ σ H F _ R (OutB.bT R o)⟩
theorem xt_not {ft:Rho→Rs Bool}(h:XT X cl E a ft):XT X cl E (.UnaryOp .Not a pos) (bNot ft):=by
 obtain⟨t,pt,rt⟩:=h.ex
 exact XT'.out ⟨_,pt_not pt,fun H0 F0 ρ σ H F Q R o=>rt H0 F0 ρ σ H F _ R (OutB.fstB o fun b H1 F1 g o1=>o1 H1 F1 (Gr.refl (R.grow g).fh))⟩
theorem xw_and1 {ft:Rho→Rs Bool}(h:XT X cl E a ft):XW X cl E (.BoolOp .And [a] pos) ft:=let ⟨t,pt,rt⟩:=h.ex;XW'.out ⟨t,pw_and1 pt,rt⟩
theorem xw_or1 {ft:Rho→Rs Bool}(h:XT X cl E a ft):XW X cl E (.BoolOp .Or [a] pos) ft:=let ⟨t,pt,rt⟩:=h.ex;XW'.out ⟨t,pw_or1 pt,rt⟩
theorem xw_and {rest:List Expr}{ft fu:Rho→Rs Bool}(h:XT X cl E a ft)(k:XW X cl E (.BoolOp .And (b::rest) pos) fu):XW X cl E (.BoolOp .And (a::b::rest) pos) (bAnd ft fu):=by
 obtain⟨t,pt,rt⟩:=h.ex
 obtain⟨u,pu,ru⟩:=k.ex
 refine XW'.out ⟨_,pw_and pt pu,fun H0 F0 ρ σ H F Q R o=>rt H0 F0 ρ σ H F _ R (OutB.fstB o fun b H1 F1 g o1=>?_)⟩
 cases b with
 | true=>exact ru H0 F0 ρ σ H1 F1 _ (R.grow g) o1
 | false=>exact o1 H1 F1 (Gr.refl (R.grow g).fh)
theorem xw_or {rest:List Expr}{ft fu:Rho→Rs Bool}(h:XT X cl E a ft)(k:XW X cl E (.BoolOp .Or (b::rest) pos) fu):XW X cl E (.BoolOp .Or (a::b::rest) pos) (bOr ft fu):=by
 obtain⟨t,pt,rt⟩:=h.ex
 obtain⟨u,pu,ru⟩:=k.ex
 refine XW'.out ⟨_,pw_or pt pu,fun H0 F0 ρ σ H F Q R o=>rt H0 F0 ρ σ H F _ R (OutB.fstB o fun b H1 F1 g o1=>?_)⟩
 cases b with
 | true=>exact o1 H1 F1 (Gr.refl (R.grow g).fh)
 | false=>exact ru H0 F0 ρ σ H1 F1 _ (R.grow g) o1
theorem XW.xt {e:Expr}{ft:Rho→Rs Bool}(h:XW X cl E e ft):XT X cl E e ft:=let ⟨t,pt,rt⟩:=h.ex;XT'.out ⟨t,pt.pt,rt⟩
def isN (neg:Bool):D→Option D
 | .non=>some (.bl (!neg))
 | _=>some (.bl neg)
theorem Dt.isnon {K:PySem.W.Frag}{F:Hp}{v:V}{d:D}(q:Dt K cl F v d):isN false d=some (.bl (decide (v=.non)))∧isN true d=some (.bl (!decide (v=.non))):=by cases q <;>exact⟨rfl,rfl⟩
theorem xe_isN {j pos'}(h:XE X cl E a fa):XE X cl E (.Compare a [.Is] [.Constant .none j pos'] pos) (f1 (isN false) fa):=by
 obtain⟨t,pt,rt⟩:=h.ex
 refine XE'.out ⟨_,pe_cmp (pc_isN pt),fun H0 F0 ρ σ H F Q R o=>rt H0 F0 ρ σ H F _ R (OutE.fst o fun d v H1 F1 g q o1=>?_)⟩
 rw[q.isnon.1] at o1
 exact o1.okI (R.grow g).fh (.bl _)
theorem xt_notN {j pos'}(h:XE X cl E a fa):XT X cl E (.Compare a [.IsNot] [.Constant .none j pos'] pos) (bT (f1 (isN true) fa)):=by
 obtain⟨t,pt,rt⟩:=h.ex
 refine XT'.out ⟨_,pt_cmp (pc_notN pt),fun H0 F0 ρ σ H F Q R o=>rt H0 F0 ρ σ H F _ R (OutE.fst (OutB.bT R o) fun d v H1 F1 g q o1=>?_)⟩
 rw[q.isnon.2] at o1
 exact o1.okI (R.grow g).fh (.bl _)
theorem xe_ifExp {c:Expr}{ft:Rho→Rs Bool}(hc:XT X cl E c ft)(ha:XE X cl E a fa)(hb:XE X cl E b fb):XE X cl E (.IfExp c a b pos) (fIf ft fa fb):=by
 obtain⟨t,pt,rt⟩:=hc.ex
 obtain⟨u,pu,ru⟩:=ha.ex
 obtain⟨w,pw,rw'⟩:=hb.ex
 refine XE'.out ⟨_,pe_ifExp pt pu pw,fun H0 F0 ρ σ H F Q R o=>rt H0 F0 ρ σ H F _ R (OutB.fst o fun b H1 F1 g o1=>?_)⟩
 cases b with
 | true=>exact ru H0 F0 ρ σ H1 F1 _ (R.grow g) o1
 | false=>exact rw' H0 F0 ρ σ H1 F1 _ (R.grow g) o1
theorem OutE.tru {H0 F H F1 H1:Hp}{d:D}{v:V}{g:Bool→Rs D}{Q:VK}(q:Dt X.K cl F v d)(o:OutE X.K cl E H0 F H ((tru d).bind g) Q):∃b,v=.bl b∧OutE X.K cl E H0 F H (g b) Q:=by
 cases e:L2.tru d with
 | ok b=>rw[e] at o;exact⟨b,tru_some q e,o⟩
 | ex n=>cases d <;>simp[L2.tru] at e
 | no=>rw[e] at o;exact o.elim
theorem xe_one {op}(h:XE X cl E a fa):XE X cl E (.BoolOp op [a] pos) fa:=let ⟨t,pt,rt⟩:=h.ex;XE'.out ⟨t,pe_one pt,rt⟩
theorem xe_and {rest:List Expr}(ha:XE X cl E a fa)(hb:XE X cl E (.BoolOp .And (b::rest) pos) fb):XE X cl E (.BoolOp .And (a::b::rest) pos) (fAnd fa fb):=by
 obtain⟨t,pt,rt⟩:=ha.ex
 obtain⟨u,pu,ru⟩:=hb.ex
 refine XE'.out ⟨_,pe_and pt pu,fun H0 F0 ρ σ H F Q R o=>rt H0 F0 ρ σ H F _ R (OutE.fst o fun d v H1 F1 g q o1=>?_)⟩
 obtain⟨b,rfl,o2⟩:=OutE.tru (F1:=F1) (H1:=H1) q o1
 refine⟨b,rfl,?_⟩
 cases b with
 | true=>exact ru H0 F0 ρ σ H1 F1 _ (R.grow g) o2
 | false=>exact o2.okI (R.grow g).fh (.bl _)
theorem xe_or {rest:List Expr}(ha:XE X cl E a fa)(hb:XE X cl E (.BoolOp .Or (b::rest) pos) fb):XE X cl E (.BoolOp .Or (a::b::rest) pos) (fOr fa fb):=by
 obtain⟨t,pt,rt⟩:=ha.ex
 obtain⟨u,pu,ru⟩:=hb.ex
 refine XE'.out ⟨_,pe_or pt pu,fun H0 F0 ρ σ H F Q R o=>rt H0 F0 ρ σ H F _ R (OutE.fst o fun d v H1 F1 g q o1=>?_)⟩
 obtain⟨b,rfl,o2⟩:=OutE.tru (F1:=F1) (H1:=H1) q o1
 refine⟨b,rfl,?_⟩
 cases b with
 | true=>exact o2.okI (R.grow g).fh (.bl _)
 | false=>exact ru H0 F0 ρ σ H1 F1 _ (R.grow g) o2
theorem xe_not (ha:XE X cl E a fa):XE X cl E (.UnaryOp .Not a pos) (fNot fa):=by
 obtain⟨t,pt,rt⟩:=ha.ex
 refine XE'.out ⟨_,pe_not pt,fun H0 F0 ρ σ H F Q R o=>rt H0 F0 ρ σ H F _ R (OutE.fst o fun d v H1 F1 g q o1=>?_)⟩
 obtain⟨b,rfl,o2⟩:=OutE.tru (F1:=F1) (H1:=H1) q o1
 exact⟨b,rfl,o2.okI (R.grow g).fh (.bl _)⟩
def mkT (ds:List D):Option D:=if ds.length≤1000000 then some (.tup ds) else none
def mkL (ds:List D):Option D:=if ds.length≤1000000 then some (.lst ds) else none
theorem sz6 {n:Nat}(h:n≤1000000):n≤sizeLine:=by rw[sizeLine_eq];omega
theorem xe_tup {es:List Expr}{x1}{fs:Rho→Rs (List D)}(h:XA X cl E es fs):XE X cl E (.Tuple es x1 pos) (fO mkT fs):=by
 obtain⟨t,pt,rt⟩:=h.ex
 refine XE'.out ⟨_,pe_tup pt,fun H0 F0 ρ σ H F Q R o=>rt H0 F0 ρ σ H F _ R (OutA.fst o fun ds vs H1 F1 g q o1=>?_)⟩
 unfold mkT at o1
 split at o1
 ·rename_i hl
  refine⟨sz6 (q.length▸hl),fun p hp=>?_⟩
  have fh:=(R.grow g).fh
  exact o1 _ _ _ (Gr.new fh hp) (.tup (.inl (.inl zX)) (q.mono (Same.upd (fh.free hp))))
 ·exact o1.elim
theorem xe_lst {es:List Expr}{fs:Rho→Rs (List D)}(h:XA X cl E es fs):XE X cl E (.List es pos) (fO mkL fs):=by
 obtain⟨t,pt,rt⟩:=h.ex
 refine XE'.out ⟨_,pe_lst pt,fun H0 F0 ρ σ H F Q R o=>rt H0 F0 ρ σ H F _ R (OutA.fst o fun ds vs H1 F1 g q o1=>?_)⟩
 unfold mkL at o1
 split at o1
 ·rename_i hl
  refine⟨sz6 (q.length▸hl),fun p hp=>?_⟩
  have fh:=(R.grow g).fh
  exact o1 _ _ _ (Gr.new fh hp) (.lst (.inl (.inl zX)) (q.mono (Same.upd (fh.free hp))))
 ·exact o1.elim
def spD (K:PySem.W.Frag)(cl:Nat→Addr)(fn:List D→Rs D)(n:Nat):Sp:=fun vs H Q E=>∃F ds,Same F H∧Dts K cl F vs ds∧vs.length=n∧OutE K cl E H F H (fn ds) Q
def ari (n:Nat)(fn:List D→Rs D):List D→Rs D:=fun ds=>if ds.length=n then fn ds else .no
theorem xe_call {k:Nat}{f:Addr}{fd:FuncData}{ps:List Str}{fn:List D→Rs D}{n:Nat}{x:Str}{p:Pos}{e:Expr}{es:List Expr}{fs:Rho→Rs (List D)}(G:FnOk X.prog X.w X.K X.mg X.base (CX1 X.prog X.w) k f fd ps (spD X.K cl fn n))(hr:Room k X.A)(hg:Gl X x)(hm:X.mg x=some (.ref f))(hk:PySem.W.keepIn X.K (.ref f)=true)(hb:Binds X.K fd ps [])(hx:Passes (CX1 X.prog X.w) X E)
  (ha:XA X cl E (e::es) fs) (he:starEach (e::es) X.env=(false,eval e X.env)::starEach es X.env) (hdb:(x == ("__debug__" : Str))=false:=by decide) (hpl:(backTo pos (starEach es X.env)).any (·.1)=false:=by rfl):XE X cl E (.Call (.Name x p) (e::es) [] pos) (fA (ari n fn) fs):=by
 obtain⟨t,pt,rt⟩:=ha.ex
 refine XE'.out ⟨_,pe_call G hr hg hm hk hb .nil hx pt hdb he hpl,fun H0 F0 ρ σ H F Q R o=>rt H0 F0 ρ σ H F _ R (OutA.fst o fun ds vs H1 F1 g q o1=>?_)⟩
 unfold ari at o1
 split at o1
 ·rename_i hl
  rw[List.append_nil]
  have R1:=R.grow g
  refine⟨F1,ds,R1.fh,q,by rw[q.length,hl],?_⟩
  cases e:fn ds with
  | ok d=>rw[e] at o1;exact o1
  | ex n=>rw[e] at o1;exact fun H' s=>o1 H' (R1.gr.hh.trans s)
  | no=>rw[e] at o1;exact o1
 ·exact o1.elim
end
end L2
namespace L2
open PySem PySem.Spec PyProof.Rows
def D.fl:D→Bool
 | .non=>true
 | .bl _=>true
 | .int _=>true
 | .str _=>true
 | _=>false
def D.toV:D→V
 | .bl b=>.bl b
 | .int i=>.int i
 | .str l=>.str (T l)
 | _=>.non
def addI:D→D→Option D
 | .int i,.int j=>some (.int (i+j))
 | _,_=>none
def subI:D→D→Option D
 | .int i,.int j=>some (.int (i - j))
 | _,_=>none
instance (i:Int):Decidable (Sm i):=inferInstanceAs (Decidable (i.natAbs<2 ^ 4000))
def mulI:D→D→Option D
 | .int i,.int j=>if Sm i∧Sm j then some (.int (i*j)) else none
 | _,_=>none
def modI:D→D→Option D
 | .int i,.int j=>if 0<j then some (.int (i % j)) else none
 | _,_=>none
def fdivI:D→D→Option D
 | .int i,.int j=>if 0<j∧Sm j then some (.int (i / j)) else none
 | _,_=>none
def addS:D→D→Option D
 | .str l,.str m=>if l.length+m.length≤1000000 then some (.str (l++m)) else none
 | _,_=>none
def ltI:D→D→Option D
 | .int i,.int j=>some (.bl (decide (i<j)))
 | _,_=>none
def leI:D→D→Option D
 | .int i,.int j=>some (.bl (decide (i≤j)))
 | _,_=>none
def gtI:D→D→Option D
 | .int i,.int j=>some (.bl (decide (j<i)))
 | _,_=>none
def geI:D→D→Option D
 | .int i,.int j=>some (.bl (decide (j≤i)))
 | _,_=>none
def ltS:D→D→Option D
 | .str l,.str m=>some (.bl (decide (l<m)))
 | _,_=>none
def eqD (neg:Bool)(a b:D):Option D:=if a.pl=true∧b.pl=true∧a.py.depth≤60 then some (.bl (if neg then !PyData.eqv a.py b.py else PyData.eqv a.py b.py)) else none
def inQ (neg:Bool)(x:D)(ds:List D):Option D:=if x.fl=true∧ds.all D.fl=true then some (.bl (if neg then !inV x.toV (ds.map D.toV) else inV x.toV (ds.map D.toV))) else none
def inD (neg:Bool)(x:D):D→Option D
 | .lst ds=>inQ neg x ds
 | .tup ds=>inQ neg x ds
 | _=>none
def inC (neg:Bool):D→D→Option D
 | .str [c],.str l=>some (.bl (if neg then !decide (c∈l) else decide (c∈l)))
 | _,_=>none
def ixD:D→D→Option D
 | .lst ds,.int i=>atI ds i
 | .tup ds,.int i=>atI ds i
 | .str l,.int i=>(atI l i).map fun c=>.str [c]
 | _,_=>none
def cutL {α:Type}(xs:List α)(lo hi:Option Int):List α:=(xs.drop (HT.sIx xs.length 0 lo)).take (HT.sIx xs.length xs.length hi - HT.sIx xs.length 0 lo)
def slD:D→Option Int→Option Int→Option D
 | .lst ds,lo,hi=>some (.lst (cutL ds lo hi))
 | .tup ds,lo,hi=>some (.tup (cutL ds lo hi))
 | .str l,lo,hi=>some (.str (cutL l lo hi))
 | _,_,_=>none
section
variable {K:PySem.W.Frag}{cl:Nat→Addr}{F H:Hp}
theorem Dt.flat {v:V}{d:D}(q:Dt K cl F v d)(h:d.fl=true):v=d.toV∧flatV v=true:=by
 cases q <;>first|exact⟨rfl,rfl⟩|(simp[D.fl] at h)
theorem Dts.flat:∀{vs:List V}{ds:List D},Dts K cl F vs ds→ds.all D.fl=true→vs=ds.map D.toV∧vs.all flatV=true
 | _,_,.nil,_=>⟨rfl,rfl⟩
 | _,_,.cons q r,h=>by
  rw[List.all_cons,Bool.and_eq_true] at h
  obtain⟨e1,e2⟩:=q.flat h.1
  obtain⟨e3,e4⟩:=Dts.flat r h.2
  exact⟨by rw[List.map_cons,← e1,← e3],by rw[List.all_cons,e2,e4];rfl⟩
def I2 (f:Int→Int→Option D):D→D→Option D
 | .int i,.int j=>f i j
 | _,_=>none
theorem I2_inv {f:Int→Int→Option D}{a b d:D}(e:I2 f a b=some d):∃i j,a=.int i∧b=.int j∧f i j=some d:=by
 cases a with
 | int i =>
  cases b with
  | int j=>exact⟨i,j,rfl,rfl,e⟩
  | _=>cases e
 | _=>cases e
def S2 (f:List Nat→List Nat→Option D):D→D→Option D
 | .str i,.str j=>f i j
 | _,_=>none
theorem S2_inv {f:List Nat→List Nat→Option D}{a b d:D}(e:S2 f a b=some d):∃i j,a=.str i∧b=.str j∧f i j=some d:=by
 cases a with
 | str i =>
  cases b with
  | str j=>exact⟨i,j,rfl,rfl,e⟩
  | _=>cases e
 | _=>cases e
theorem Dt.intE {v:V}{i:Int}(q:Dt K cl F v (.int i)):v=.int i:=by cases q;rfl
theorem Dt.strE {v:V}{l:List Nat}(q:Dt K cl F v (.str l)):v=.str (T l)∧TxtOk (T l):=by cases q with|str _ ok=>exact⟨rfl,ok⟩
theorem o_I0 {f:Int→Int→D}{r:Int→Int→V}(hf:∀{F:Hp} i j,Dt K cl F (r i j) (f i j)):Op2 K cl (rI0 r) (I2 fun i j=>some (f i j)):=fun F H x y a b d Q s qa qb e k=>by
 obtain⟨i,j,rfl,rfl,e1⟩:=I2_inv e
 obtain rfl:=qa.intE
 obtain rfl:=qb.intE
 obtain rfl:=Option.some.inj e1
 exact⟨_,_,rfl,rfl,k _ _ _ (Gr.refl s) (hf i j)⟩
theorem o_I1 {c:Int→Int→Prop} [∀i j,Decidable (c i j)]{f:Int→Int→Int}:Op2 K cl (rI c fun i j=>.int (f i j)) (I2 fun i j=>if c i j then some (.int (f i j)) else none):=fun F H x y a b d Q s qa qb e k=>by
 obtain⟨i,j,rfl,rfl,e1⟩:=I2_inv e
 obtain rfl:=qa.intE
 obtain rfl:=qb.intE
 by_cases h:c i j
 ·rw[if_pos h] at e1
  obtain rfl:=Option.some.inj e1
  exact⟨_,_,rfl,rfl,h,k _ _ _ (Gr.refl s) (.int _)⟩
 ·rw[if_neg h] at e1;cases e1
theorem o_addI:Op2 K cl (rI0 fun i j=>.int (i+j)) addI:=o_I0 fun _ _=>.int _
theorem o_subI:Op2 K cl (rI0 fun i j=>.int (i - j)) subI:=o_I0 fun _ _=>.int _
theorem o_mulI:Op2 K cl (rI (fun i j=>Sm i∧Sm j) fun i j=>.int (i*j)) mulI:=o_I1
theorem o_modI:Op2 K cl (rI (fun _ j=>0<j) fun i j=>.int (i % j)) modI:=o_I1
theorem o_fdivI:Op2 K cl (rI (fun _ j=>0<j∧Sm j) fun i j=>.int (i / j)) fdivI:=o_I1
theorem o_addS:Op2 K cl (fun x y H Q=>∃l m,x=.str (T l)∧y=.str (T m)∧l.length+m.length≤1000000∧Q (.str (T (l++m))) H) addS:=fun F H x y a b d Q s qa qb e k=>by
 obtain⟨l,m,rfl,rfl,e1⟩:=S2_inv (f:=fun l m=>if l.length+m.length≤1000000 then some (.str (l++m)) else none) e
 obtain⟨rfl,ok⟩:=qa.strE
 obtain⟨rfl,ok2⟩:=qb.strE
 split at e1
 ·rename_i h
  obtain rfl:=Option.some.inj e1
  refine⟨_,_,rfl,rfl,h,k _ _ _ (Gr.refl s) (.str _ ?_)⟩
  rw[← T_app]
  exact TxtOk.app ok ok2 (by rw[T_len,T_len];exact h)
 ·cases e1
theorem o_ltI:Op2 K cl (rI0 fun i j=>.bl (decide (i<j))) ltI:=o_I0 fun _ _=>.bl _
theorem o_leI:Op2 K cl (rI0 fun i j=>.bl (decide (i≤j))) leI:=o_I0 fun _ _=>.bl _
theorem o_gtI:Op2 K cl (rI0 fun i j=>.bl (decide (j<i))) gtI:=o_I0 fun _ _=>.bl _
theorem o_ltS:Op2 K cl (fun x y H Q=>∃i j,x=.str i∧y=.str j∧Q (.bl (decide (i.cps.toList<j.cps.toList))) H) ltS:=fun F H x y a b d Q s qa qb e k=>by
 obtain⟨l,m,rfl,rfl,e1⟩:=S2_inv (f:=fun l m=>some (.bl (decide (l<m)))) e
 obtain⟨rfl,ok⟩:=qa.strE
 obtain⟨rfl,ok2⟩:=qb.strE
 obtain rfl:=Option.some.inj e1
 refine⟨_,_,rfl,rfl,?_⟩
 rw[T_cps,T_cps]
 exact k _ _ _ (Gr.refl s) (.bl _)
theorem o_eq:Op2 K cl (rEqD K) (eqD false):=fun F H x y a b d Q s qa qb e k=>by
 unfold eqD at e
 split at e
 ·rename_i h
  obtain rfl:=Option.some.inj e
  exact⟨_,_,(qa.is h.1).mono s,(qb.is h.2.1).mono s,h.2.2,k _ _ _ (Gr.refl s) (.bl _)⟩
 ·cases e
theorem o_ne:Op2 K cl (rNeD K) (eqD true):=fun F H x y a b d Q s qa qb e k=>by
 unfold eqD at e
 split at e
 ·rename_i h
  obtain rfl:=Option.some.inj e
  exact⟨_,_,(qa.is h.1).mono s,(qb.is h.2.1).mono s,h.2.2,k _ _ _ (Gr.refl s) (.bl _)⟩
 ·cases e
theorem inQ_run {neg:Bool}{x:V}{a d:D}{p:Addr}{vs:List V}{ds:List D}{Q:VK}(s:Same F H)(qa:Dt K cl F x a)(sq:SqL K H p vs∨SqT K H p vs)(dq:Dts K cl F vs ds)(e:inQ neg a ds=some d)(k:∀v H' F',Gr F H F' H'→Dt K cl F' v d→Q v H'):rIn K neg x (.ref p) H Q:=by
 unfold inQ at e
 split at e
 ·rename_i h
  obtain rfl:=Option.some.inj e
  obtain⟨e1,e2⟩:=qa.flat h.1
  obtain⟨e3,e4⟩:=dq.flat h.2
  refine⟨p,vs,rfl,sq,e2,e4,?_⟩
  rw[e1,e3]
  exact k _ _ _ (Gr.refl s) (.bl _)
 ·cases e
theorem o_in {neg:Bool}:Op2 K cl (rIn K neg) (inD neg):=fun F H x y a b d Q s qa qb e k=>by
 cases qb with
 | lst sq dq=>exact inQ_run s qa (.inl (s.seq sq)) dq e k
 | tup sq dq=>exact inQ_run s qa (.inr (s.seqT sq)) dq e k
 | _=>cases e
theorem inC_inv {neg:Bool}{a b d:D}(e:inC neg a b=some d):∃c l,a=.str [c]∧b=.str l∧d=.bl (if neg then !decide (c∈l) else decide (c∈l)):=by
 cases a with
 | str l =>
  match l,e with
  | [c],e =>
   cases b with
   | str m=>exact⟨c,m,rfl,rfl,(Option.some.inj e).symm⟩
   | _=>cases e
 | _=>cases e
theorem o_inC:Op2 K cl rInC (inC false):=fun F H x y a b d Q s qa qb e k=>by
 obtain⟨c,l,rfl,rfl,rfl⟩:=inC_inv e
 obtain⟨rfl,_⟩:=qa.strE
 obtain⟨rfl,_⟩:=qb.strE
 exact⟨c,l,rfl,rfl,k _ _ _ (Gr.refl s) (.bl _)⟩
theorem Dts.at {vs:List V}{ds:List D}{i:Int}{d:D}(q:Dts K cl F vs ds)(e:atI ds i=some d):∃v,atI vs i=some v∧Dt K cl F v d:=by
 unfold atI at e ⊢
 rw[q.length]
 cases h:ixN ds.length i with
 | none=>rw[h] at e;cases e
 | some j =>
  rw[h] at e
  exact q.get' e
theorem txt_sub {l m:List Nat}(ok:TxtOk (T l))(h:∀c∈m,c∈l)(hl:m.length≤1000000):TxtOk (T m):=by
 refine T_ok (fun c hc=>?_) hl
 have a:(T l).cps.all (· < 0x110000)=true:=ok.1
 simp only[T,List.all_toArray,List.all_eq_true,decide_eq_true_eq] at a
 exact a c (h c hc)
theorem txt1 {l:List Nat}{c:Nat}(ok:TxtOk (T l))(h:c∈l):TxtOk (T [c]):=txt_sub ok (fun d hd=>by rw[List.mem_singleton.mp hd];exact h) (Nat.le_add_left 1 999999)
theorem ixD_int {a b d:D}(e:ixD a b=some d):∃i,b=.int i:=by
 cases b with
 | int i=>exact⟨i,rfl⟩
 | _=>cases a <;>cases e
theorem o_ix:Op2 K cl (rIx K) ixD:=fun F H x y a b d Q s qa qb e k=>by
 obtain⟨i,rfl⟩:=ixD_int e
 obtain rfl:=qb.intE
 ·cases qa with
  | lst sq dq =>
   obtain⟨v,h1,h2⟩:=dq.at e
   exact .inl ⟨_,_,_,_,rfl,rfl,s.seq sq,h1,k _ _ _ (Gr.refl s) h2⟩
  | tup sq dq =>
   obtain⟨v,h1,h2⟩:=dq.at e
   exact .inr (.inl ⟨_,_,_,_,rfl,rfl,s.seqT sq,h1,k _ _ _ (Gr.refl s) h2⟩)
  | str l ok =>
   have e':(atI l i).map (fun c=>D.str [c])=some d:=e
   cases h:atI l i with
   | none=>rw[h] at e';cases e'
   | some c =>
    rw[h] at e'
    obtain rfl:=Option.some.inj e'
    refine .inr (.inr ⟨T l,i,c,rfl,rfl,sz6 ok.2,by rw[T_cps];exact h,k _ _ _ (Gr.refl s) (.str [c] (txt1 ok ?_))⟩)
    unfold atI at h
    cases h2:ixN l.length i with
    | none=>rw[h2] at h;cases h
    | some j=>rw[h2] at h;exact List.mem_of_getElem? h
  | _=>cases e
end
end L2
namespace L2
open PySem PySem.Spec PyProof.Rows
def tDS (K:PySem.W.Frag)(cl:Nat→Addr)(E:XK)(g:Rho→Out):TS:=fun Dn σ H=>∃H0 F0 ρ F,Rl K cl H0 F0 ρ σ H F∧OutS K cl E H0 F0 F (g ρ) Dn
def XS (X:Cx)(cl:Nat→Addr)(E:XK)(st:Stmt)(g:Rho→Out):Prop:=PS X st (tDS X.K cl E g)
def XSs (X:Cx)(cl:Nat→Addr)(E:XK)(st:List Stmt)(g:Rho→Out):Prop:=PSs X st (tDS X.K cl E g)
def sNx:Rho→Out:=fun ρ=>.nx ρ
def zQ (g h:Rho→Out):Rho→Out:=fun ρ=>match g ρ with | .nx ρ'=>h ρ'|o=>o
def yI (f:Rho→Rs D):Rho→Out:=fun ρ=>match f ρ with | .ok d=>.rt d | .ex n=>.ex n | .no=>.no
def sDrop (f:Rho→Rs D):Rho→Out:=fun ρ=>match f ρ with | .ok _=>.nx ρ | .ex n=>.ex n | .no=>.no
def yM (i:Nat)(f:Rho→Rs D):Rho→Out:=fun ρ=>match f ρ with | .ok d=>.nx (ρ.set i (.fz d)) | .ex n=>.ex n | .no=>.no
def sIf (ft:Rho→Rs Bool)(g h:Rho→Out):Rho→Out:=fun ρ=>match ft ρ with | .ok true=>g ρ | .ok false=>h ρ | .ex n=>.ex n | .no=>.no
def sSet2 (i j:Nat)(f:Rho→Rs D):Rho→Out:=fun ρ=>match f ρ with | .ok (.tup [a,b])=>.nx ((ρ.set i (.fz a)).set j (.fz b)) | .ok _=>.no | .ex n=>.ex n | .no=>.no
def sIce (i:Nat)(g:Rho→Out):Rho→Out:=fun ρ=>match ρ[i]? with|some (.ow ds)=>g (ρ.set i (.fz (.lst ds)))|_=>.no
def cutX (g:Rho→Out):Rho→Out:=fun ρ=>match g ρ with | .ex _=>.no|o=>o
def forD (i:Nat)(g:Rho→Out):List D→Rho→Out
 | [],ρ=>.nx ρ
 | d::ds,ρ=>match g (ρ.set i (.fz d)) with | .nx ρ'=>forD i g ds ρ' | .ct ρ'=>forD i g ds ρ' | .bk ρ'=>.nx ρ'|o=>o
def sFor (i:Nat)(fi:Rho→Rs (List D))(g:Rho→Out):Rho→Out:=fun ρ=>match fi ρ with | .ok ds=>forD i g ds ρ | .ex n=>.ex n | .no=>.no
def whD (ft:Rho→Rs Bool)(g:Rho→Out):Nat→Rho→Out
 | 0,_=>.no
 | n+1,ρ=>match ft ρ with
  | .ok true=>(match g ρ with | .nx ρ'=>whD ft g n ρ' | .ct ρ'=>whD ft g n ρ' | .bk ρ'=>.nx ρ'|o=>o)
  | .ok false=>.nx ρ
  | .ex n=>.ex n
  | .no=>.no
def sWh (n:Nat)(ft:Rho→Rs Bool)(g:Rho→Out):Rho→Out:=whD ft g n
def owL (ρ:Rho)(i:Nat):Option (List D):=match ρ[i]? with|some (.ow ds)=>some ds|_=>none
theorem owL_some {ρ:Rho}{i:Nat}{ds:List D}(h:owL ρ i=some ds):ρ[i]? = some (.ow ds):=by
 unfold owL at h
 split at h
 ·rename_i e;rw[e,Option.some.inj h]
 ·cases h
def sApp (i:Nat)(f:Rho→Rs D):Rho→Out:=fun ρ=>match owL ρ i with
 | some ds=>(match f ρ with | .ok d=>if ds.length<1000000 then .nx (ρ.set i (.ow (ds++[d]))) else .no | .ex n=>.ex n | .no=>.no)
 | none=>.no
section
variable {K:PySem.W.Frag}{cl:Nat→Addr}{E:XK}{H0 F0 F F1:Hp}
theorem OutS.grow {o:Out}{Dn:Ends}(h:OutS K cl E H0 F0 F o Dn)(s:Same F F1):OutS K cl E H0 F0 F1 o Dn:=by
 cases o with
 | nx ρ=>exact fun σ H F' R q=>h σ H F' R (s.trans q)
 | bk ρ=>exact fun σ H F' R q=>h σ H F' R (s.trans q)
 | ct ρ=>exact fun σ H F' R q=>h σ H F' R (s.trans q)
 | rt d=>exact h
 | ex n=>exact h
 | no=>exact h
end
section
variable {X:Cx}{cl:Nat→Addr}{E:XK}{st:Stmt}{rest:List Stmt}{g h:Rho→Out}{f:Rho→Rs D}{e:Expr}{pos:Pos}
def XS' (X:Cx)(cl:Nat→Addr)(E:XK)(st:Stmt)(g:Rho→Out):Prop:=∃t:TS,PS X st t∧∀(H0 F0:Hp) (ρ:Rho) (σ:St) (H F:Hp) (Dn:Ends),Rl X.K cl H0 F0 ρ σ H F→OutS X.K cl E H0 F0 F (g ρ) Dn→t Dn σ H
def XSs' (X:Cx)(cl:Nat→Addr)(E:XK)(st:List Stmt)(g:Rho→Out):Prop:=∃t:TS,PSs X st t∧∀(H0 F0:Hp) (ρ:Rho) (σ:St) (H F:Hp) (Dn:Ends),Rl X.K cl H0 F0 ρ σ H F→OutS X.K cl E H0 F0 F (g ρ) Dn→t Dn σ H
theorem XS.ex (h:XS X cl E st g):XS' X cl E st g:=⟨_,h,fun H0 F0 ρ σ H F Dn R o=>⟨H0,F0,ρ,F,R,o⟩⟩
theorem XSs.ex (h:XSs X cl E rest g):XSs' X cl E rest g:=⟨_,h,fun H0 F0 ρ σ H F Dn R o=>⟨H0,F0,ρ,F,R,o⟩⟩
theorem XS'.out (h:XS' X cl E st g):XS X cl E st g:=let ⟨_,pt,rt⟩:=h;fun pins s σ H Dn I ⟨H0,F0,ρ,F,R,o⟩=>pt pins s σ H Dn I (rt H0 F0 ρ σ H F Dn R o)
theorem XSs'.out (h:XSs' X cl E rest g):XSs X cl E rest g:=let ⟨_,pt,rt⟩:=h;fun pins s σ H Dn I ⟨H0,F0,ρ,F,R,o⟩=>pt pins s σ H Dn I (rt H0 F0 ρ σ H F Dn R o)
theorem yh:XSs X cl E [] sNx:=XSs'.out ⟨_,pss_nil,fun H0 F0 ρ σ H F Dn R o=>o σ H F R (Same.refl _)⟩
theorem zy (h:XS X cl E st g):XSs X cl E [st] g:=let ⟨t,pt,rt⟩:=h.ex;XSs'.out ⟨t,pss_one pt,rt⟩
theorem zq (h1:XS X cl E st g)(h2:XSs X cl E rest h):XSs X cl E (st::rest) (zQ g h):=by
 obtain⟨t,pt,rt⟩:=h1.ex
 obtain⟨u,pu,ru⟩:=h2.ex
 refine XSs'.out ⟨_,pss_cons pt pu,fun H0 F0 ρ σ H F Dn R o=>rt H0 F0 ρ σ H F _ R ?_⟩
 unfold zQ at o
 cases e:g ρ with
 | nx ρ'=>rw[e] at o;exact fun σ' H' F' R' s=>ru H0 F0 ρ' σ' H' F' Dn R' (o.grow s)
 | bk ρ'=>rw[e] at o;exact o
 | ct ρ'=>rw[e] at o;exact o
 | rt d=>rw[e] at o;exact o
 | ex n=>rw[e] at o;exact o
 | no=>rw[e] at o;exact o
theorem zG (h:XE X cl E e f):XS X cl E (.Return (some e) pos) (yI f):=by
 obtain⟨t,pt,rt⟩:=h.ex
 refine XS'.out ⟨_,ps_ret pt,fun H0 F0 ρ σ H F Dn R o=>rt H0 F0 ρ σ H F _ R ?_⟩
 unfold yI at o
 cases e:f ρ with
 | ok d=>rw[e] at o;exact fun v H' F' gg q=>o v H' F' (R.gr.trans gg) q
 | ex n=>rw[e] at o;exact o
 | no=>rw[e] at o;exact o
theorem xs_expr (h:XE X cl E e f)(hs:swapsWith e none pos.line X.env=pure false:=by rfl):XS X cl E (.Expr e pos) (sDrop f):=by
 obtain⟨t,pt,rt⟩:=h.ex
 refine XS'.out ⟨_,ps_expr pt hs,fun H0 F0 ρ σ H F Dn R o=>rt H0 F0 ρ σ H F _ R ?_⟩
 unfold sDrop at o
 cases e:f ρ with
 | ok d=>rw[e] at o;exact fun v H' F' gg q=>o σ H' F' (R.grow gg) gg.ff
 | ex n=>rw[e] at o;exact o
 | no=>rw[e] at o;exact o
theorem yd {i:Nat}{x:Str}{pos':Pos}(hN:X.N.Nodup)(hi:X.N[i]? = some x)(hx:Loc X.env.scope x)(he:XE X cl E e f)(hs:swapsWith e (some (.Name x pos')) pos.line X.env=pure false:=by rfl)(hf:X.fn x=true∨X.env.scope.names.lookup x=some .local:=by first|exact .inl rfl|exact .inr rfl|assumption) :
  XS X cl E (.Assign [.Name x pos'] e pos) (yM i f):=by
 obtain⟨t,pt,rt⟩:=he.ex
 refine XS'.out ⟨_,ps_set hN hi hx pt hs hf,fun H0 F0 ρ σ H F Dn R o=>rt H0 F0 ρ σ H F _ R ?_⟩
 unfold yM at o
 cases e:f ρ with
 | ok d=>rw[e] at o;exact fun v H' F' gg q=>o _ H' F' ((R.grow gg).set q) gg.ff
 | ex n=>rw[e] at o;exact o
 | no=>rw[e] at o;exact o
theorem xs_if {c:Expr}{a b:List Stmt}{ft:Rho→Rs Bool}(hc:XT X cl E c ft)(ha:XSs X cl E a g)(hb:XSs X cl E b h):XS X cl E (.If c a b pos) (sIf ft g h):=by
 obtain⟨t,pt,rt⟩:=hc.ex
 obtain⟨u,pu,ru⟩:=ha.ex
 obtain⟨w,pw,rw'⟩:=hb.ex
 refine XS'.out ⟨_,ps_if pt pu pw,fun H0 F0 ρ σ H F Dn R o=>rt H0 F0 ρ σ H F _ R ?_⟩
 unfold sIf at o
 cases e:ft ρ with
 | ok b =>
  rw[e] at o
  intro H' F' gg
  cases b with
  | true=>exact ru H0 F0 ρ σ H' F' Dn (R.grow gg) (o.grow gg.ff)
  | false=>exact rw' H0 F0 ρ σ H' F' Dn (R.grow gg) (o.grow gg.ff)
 | ex n=>rw[e] at o;exact o
 | no=>rw[e] at o;exact o
theorem xs_nox (h:XS X.nox cl E0 st g):XS X cl E st (cutX g):=by
 obtain⟨t,pt,rt⟩:=h.ex
 refine XS'.out ⟨_,pt.nox,fun H0 F0 ρ σ H F Dn R o=>rt H0 F0 ρ σ H F _ R ?_⟩
 unfold cutX at o
 cases e:g ρ with
 | nx ρ'=>rw[e] at o;exact o
 | bk ρ'=>rw[e] at o;exact o
 | ct ρ'=>rw[e] at o;exact o
 | rt d=>rw[e] at o;exact o
 | ex n=>rw[e] at o;exact o.elim
 | no=>rw[e] at o;exact o
theorem xs_ice {i:Nat}(h:XS X cl E st g):XS X cl E st (sIce i g):=by
 obtain⟨t,pt,rt⟩:=h.ex
 refine XS'.out ⟨_,pt,fun H0 F0 ρ σ H F Dn R o=>?_⟩
 unfold sIce at o
 split at o
 ·rename_i ds e
  obtain⟨F',s,R'⟩:=R.ice e
  exact rt H0 F0 _ σ H F' Dn R' (o.grow s)
 ·exact o.elim
theorem xs_while {c:Expr}{body:List Stmt}{ft:Rho→Rs Bool}(n:Nat)(hp:PassesOwn (model X.prog X.w) X.A X.env X.xe)(hc:XT X cl E c ft)(hb:XSs X cl E body g):XS X cl E (.While c body [] pos) (sWh n ft g):=by
 obtain⟨t,pt,rt⟩:=hc.ex
 obtain⟨u,pu,ru⟩:=hb.ex
 refine XS'.out ⟨_,ps_while hp pt pu,fun H0 F0 ρ σ H F Dn R o=>?_⟩
 refine⟨fun m σ H=>∃ρ F',Rl X.K cl H0 F0 ρ σ H F'∧OutS X.K cl E H0 F0 F' (whD ft g m ρ) Dn,⟨n,ρ,F,R,o⟩,?_⟩
 rintro m σ1 H1 ⟨ρ1,F1,R1,o1⟩
 cases m with
 | zero=>exact o1.elim
 | succ m =>
  refine rt H0 F0 ρ1 σ1 H1 F1 _ R1 ?_
  unfold whD at o1
  cases e:ft ρ1 with
  | ok b =>
   rw[e] at o1
   intro H2 F2 gg
   have R2:=R1.grow gg
   cases b with
   | false=>exact o1 σ1 H2 F2 R2 gg.ff
   | true =>
    refine⟨fun σ H=>∃ρ F',Rl X.K cl H0 F0 ρ σ H F'∧OutS X.K cl E H0 F0 F' (whD ft g m ρ) Dn,fun σ' H' p=>⟨m,Nat.lt_succ_self _,p⟩,ru H0 F0 ρ1 σ1 H2 F2 _ R2 ?_⟩
    have o2:=o1.grow gg.ff
    cases e2:g ρ1 with
    | nx ρ'=>simp only[e2] at o2;exact fun σ' H' F' R' s=>⟨ρ',F',R',o2.grow s⟩
    | ct ρ'=>simp only[e2] at o2;exact fun σ' H' F' R' s=>⟨ρ',F',R',o2.grow s⟩
    | bk ρ'=>simp only[e2] at o2;exact o2
    | rt d=>simp only[e2] at o2;exact o2
    | ex n=>simp only[e2] at o2;exact o2
    | no=>simp only[e2] at o2;exact o2
  | ex n=>rw[e] at o1;exact o1
  | no=>rw[e] at o1;exact o1
def OutI (K:PySem.W.Frag)(cl:Nat→Addr)(E:XK)(H0 F H:Hp)(r:Rs (List D))(Q:It→Hp→Prop):Prop :=
 match r with
 | .ok ds=>∀J G vs H' F',Gr F H F' H'→Wlk J G vs→(∀H'',Same F' H''→G H'')→Dts K cl F' vs ds→Q J H'
 | .ex n=>∀H',Same H0 H'→E (.ref (cl n)) none H'
 | .no=>False
def tDI (K:PySem.W.Frag)(cl:Nat→Addr)(E:XK)(f:Rho→Rs (List D)):TI:=fun σ H Q=>∃H0 F0 ρ F,Rl K cl H0 F0 ρ σ H F∧OutI K cl E H0 F H (f ρ) Q
def XI (X:Cx)(cl:Nat→Addr)(E:XK)(tg e:Expr)(f:Rho→Rs (List D)):Prop:=PI X tg e (tDI X.K cl E f)
theorem XI.mk {tg:Expr}{fi:Rho→Rs (List D)}{t:TI}(pt:PI X tg e t)(rt:∀(H0 F0:Hp) (ρ:Rho) (σ:St) (H F:Hp) (Q:It→Hp→Prop),Rl X.K cl H0 F0 ρ σ H F→OutI X.K cl E H0 F H (fi ρ) Q→t σ H Q):XI X cl E tg e fi :=
 fun pins s σ H Q I ⟨H0,F0,ρ,F,R,o⟩=>pt pins s σ H Q I (rt H0 F0 ρ σ H F Q R o)
def lsD:D→Option (List D)
 | .lst ds=>some ds
 | _=>none
def tpD:D→Option (List D)
 | .tup ds=>some ds
 | _=>none
def sgD:D→Option (List D)
 | .str l=>some (l.map fun c=>.str [c])
 | _=>none
def fI (g:D→Option (List D))(f:Rho→Rs D):Rho→Rs (List D):=fun ρ=>(f ρ).bind fun d=>match g d with|some ds=>.ok ds|none=>.no
theorem OutI.fst {K:PySem.W.Frag}{H0 F H:Hp}{r:Rs D}{k:D→Rs (List D)}{Q:It→Hp→Prop}{P:VK}(h:OutI K cl E H0 F H (r.bind k) Q)(z:∀d v H1 F1,Gr F H F1 H1→Dt K cl F1 v d→OutI K cl E H0 F1 H1 (k d) Q→P v H1):OutE K cl E H0 F H r P:=by
 cases r with
 | ok d =>
  refine fun v H' F' g' q=>z d v H' F' g' q ?_
  have h':OutI K cl E H0 F H (k d) Q:=h
  cases e:k d with
  | ok ds=>rw[e] at h';exact fun J G vs H2 F2 g2=>h' J G vs H2 F2 (g'.trans g2)
  | ex n=>rw[e] at h';exact h'
  | no=>rw[e] at h';exact h'
 | ex n=>exact h
 | no=>exact h
theorem xi_list {tg:Expr}(h:XE X cl E e f):XI X cl E tg e (fI lsD f):=by
 obtain⟨t,pt,rt⟩:=h.ex
 refine XI.mk (pi_list pt) fun H0 F0 ρ σ H F Q R o=>rt H0 F0 ρ σ H F _ R (OutI.fst o fun d v H1 F1 g q o1=>?_)
 cases q with
 | lst sq dq =>
  have fh:=(R.grow g).fh
  exact⟨_,rfl,⟨_,fh.seq sq⟩,o1 _ _ _ H1 F1 (Gr.refl fh) wlk_list (fun H'' s=>s.seq sq) dq⟩
 | _=>exact o1.elim
theorem xi_tup {tg:Expr}(h:XE X cl E e f):XI X cl E tg e (fI tpD f):=by
 obtain⟨t,pt,rt⟩:=h.ex
 refine XI.mk (pi_tup pt) fun H0 F0 ρ σ H F Q R o=>rt H0 F0 ρ σ H F _ R (OutI.fst o fun d v H1 F1 g q o1=>?_)
 cases q with
 | tup sq dq =>
  have fh:=(R.grow g).fh
  exact⟨_,rfl,⟨_,fh.seqT sq⟩,o1 _ _ _ H1 F1 (Gr.refl fh) wlk_tup (fun H'' s=>s.seqT sq) dq⟩
 | _=>exact o1.elim
theorem dts_signs {K:PySem.W.Frag}{F:Hp}:∀{l:List Nat},(∀c∈l,TxtOk (T [c]))→Dts K cl F (l.map fun c=>V.str (T [c])) (l.map fun c=>D.str [c])
 | [],_=>.nil
 | c::l,h=>.cons (.str [c] (h c (.head _))) (dts_signs fun d hd=>h d (.tail _ hd))
theorem xi_str {tg:Expr}(h:XE X cl E e f):XI X cl E tg e (fI sgD f):=by
 obtain⟨t,pt,rt⟩:=h.ex
 refine XI.mk (pi_str pt) fun H0 F0 ρ σ H F Q R o=>rt H0 F0 ρ σ H F _ R (OutI.fst o fun d v H1 F1 g q o1=>?_)
 cases q with
 | str l ok =>
  have fh:=(R.grow g).fh
  have w:=wlk_str (x:=T l) (G:=fun _=>True)
  rw[T_cps] at w
  exact⟨_,rfl,o1 _ _ _ H1 F1 (Gr.refl fh) w (fun _ _=>trivial) (dts_signs fun c hc=>txt1 ok hc)⟩
 | _=>exact o1.elim
def rng1:List D→Option (List D)
 | [.int j]=>if -(2 ^ 62)≤j∧j<2 ^ 62 then some ((List.range j.toNat).map fun(k:Nat)=>.int (k:Int)) else none
 | _=>none
def rng3:List D→Option (List D)
 | [.int i,.int j,.int c]=>if 0≤i∧i≤j∧j<2 ^ 20∧0<c∧c<2 ^ 20 then some ((List.range ((j - i+c - 1) / c).toNat).map fun(k:Nat)=>.int (i+(k:Int)*c)) else none
 | _=>none
def fR (g:List D→Option (List D))(fs:Rho→Rs (List D)):Rho→Rs (List D):=fun ρ=>(fs ρ).bind fun ds=>match g ds with|some es=>.ok es|none=>.no
theorem OutI.fstA {K:PySem.W.Frag}{H0 F H:Hp}{r:Rs (List D)}{k:List D→Rs (List D)}{Q:It→Hp→Prop}{P:List V→Hp→Prop}(h:OutI K cl E H0 F H (r.bind k) Q)(z:∀d v H1 F1,Gr F H F1 H1→Dts K cl F1 v d→OutI K cl E H0 F1 H1 (k d) Q→P v H1):OutA K cl E H0 F H r P:=by
 cases r with
 | ok d =>
  refine fun v H' F' g' q=>z d v H' F' g' q ?_
  have h':OutI K cl E H0 F H (k d) Q:=h
  cases e:k d with
  | ok ds=>rw[e] at h';exact fun J G vs H2 F2 g2=>h' J G vs H2 F2 (g'.trans g2)
  | ex n=>rw[e] at h';exact h'
  | no=>rw[e] at h';exact h'
 | ex n=>exact h
 | no=>exact h
theorem dts_map {K:PySem.W.Frag}{F:Hp}{α:Type}{v:α→V}{d:α→D}:∀{l:List α},(∀x∈l,Dt K cl F (v x) (d x))→Dts K cl F (l.map v) (l.map d)
 | [],_=>.nil
 | c::l,h=>.cons (h c (.head _)) (dts_map fun d hd=>h d (.tail _ hd))
theorem Dts.one {K:PySem.W.Frag}{F:Hp}{vs:List V}{d:D}(q:Dts K cl F vs [d]):∃v,vs=[v]∧Dt K cl F v d:=by
 cases q with
 | cons q r=>cases r;exact⟨_,rfl,q⟩
theorem Dts.two {K:PySem.W.Frag}{F:Hp}{vs:List V}{d e:D}(q:Dts K cl F vs [d,e]):∃v w,vs=[v,w]∧Dt K cl F v d∧Dt K cl F w e:=by
 cases q with
 | cons q r=>obtain⟨w,rfl,q2⟩:=r.one;exact⟨_,_,rfl,q,q2⟩
theorem Dts.three {K:PySem.W.Frag}{F:Hp}{vs:List V}{d e c:D}(q:Dts K cl F vs [d,e,c]):∃v w u,vs=[v,w,u]∧Dt K cl F v d∧Dt K cl F w e∧Dt K cl F u c:=by
 cases q with
 | cons q r=>obtain⟨w,u,rfl,q2,q3⟩:=r.two;exact⟨_,_,_,rfl,q,q2,q3⟩
theorem xN {tg a:Expr}{p:Pos}{fs:Rho→Rs (List D)}(hg:Gl X "range")(hm:X.mg "range" = none)(ha:XA X cl E [a] fs)(hs:starEach [a] X.env=[(false,eval a X.env)]):XI X cl E tg (.Call (.Name "range" p) [a] [] pos) (fR rng1 fs):=by
 obtain⟨t,pt,rt⟩:=ha.ex
 refine XI.mk (pi_range1 hg hm pt hs) fun H0 F0 ρ σ H F Q R o=>rt H0 F0 ρ σ H F _ R (OutI.fstA o fun d v H1 F1 g q o1=>?_)
 match d,q,o1 with
 | [.int j],q,o1 =>
  obtain⟨v',rfl,q1⟩:=q.one
  cases q1
  dsimp only [rng1] at o1
  by_cases h:-(2 ^ 62)≤j∧j<2 ^ 62
  ·rw[if_pos h] at o1
   refine⟨j,rfl,h.1,h.2,o1 _ (fun _=>True) _ H1 F1 (Gr.refl (R.grow g).fh) wlk_range (fun _ _=>trivial) (dts_map fun k _=>?_)⟩
   rw[Int.zero_add];exact .int _
  ·rw[if_neg h] at o1;exact o1.elim
theorem xi_range3 {tg a b c:Expr}{p:Pos}{fs:Rho→Rs (List D)}(hg:Gl X "range")(hm:X.mg "range" = none)(ha:XA X cl E [a,b,c] fs)(hs:starEach [a,b,c] X.env=[(false,eval a X.env),(false,eval b X.env),(false,eval c X.env)])(hs2:starEach [b,c] X.env=[(false,eval b X.env),(false,eval c X.env)]):XI X cl E tg (.Call (.Name "range" p) [a,b,c] [] pos) (fR rng3 fs):=by
 obtain⟨t,pt,rt⟩:=ha.ex
 refine XI.mk (pi_range3 hg hm pt hs hs2) fun H0 F0 ρ σ H F Q R o=>rt H0 F0 ρ σ H F _ R (OutI.fstA o fun d v H1 F1 g q o1=>?_)
 match d,q,o1 with
 | [.int i,.int j,.int c],q,o1 =>
  obtain⟨v,w,u,rfl,q1,q2,q3⟩:=q.three
  cases q1;cases q2;cases q3
  dsimp only [rng3] at o1
  by_cases h:0≤i∧i≤j∧j<2 ^ 20∧0<c∧c<2 ^ 20
  ·rw[if_pos h] at o1
   exact⟨i,j,c,rfl,h.1,h.2.1,h.2.2.1,h.2.2.2.1,h.2.2.2.2,o1 _ (fun _=>True) _ H1 F1 (Gr.refl (R.grow g).fh) wlk_range3 (fun _ _=>trivial) (dts_map fun k _=>.int _)⟩
  ·rw[if_neg h] at o1;exact o1.elim
theorem xs_for {tg iter:Expr}{body:List Stmt}{fi:Rho→Rs (List D)}{i:Nat}(hp:PassesOwn (model X.prog X.w) X.A X.env X.xe)(hc:X.calm=true)(hi:XI X cl E tg iter fi)(hg:PG X tg (gName i))(hb:XSs X cl E body g)(hs:∀x,foldedSetIterable iter X.env x=pure x:=by intro _;rfl):XS X cl E (.For tg iter body [] pos) (sFor i fi g):=by
 obtain⟨u,pu,ru⟩:=hb.ex
 refine XS'.out ⟨_,ps_for hp hc hi hg pu hs,fun H0 F0 ρ σ H F Dn R o=>⟨H0,F0,ρ,F,R,?_⟩⟩
 unfold sFor at o
 cases e:fi ρ with
 | ok ds =>
  rw[e] at o
  intro J G vs H1 F1 gg W hG dq
  refine for_wlk W (fun k σ H=>∃ρ' F',Rl X.K cl H0 F0 ρ' σ H F'∧Same F1 F'∧OutS X.K cl E H0 F0 F' (forD i g (ds.drop k) ρ') Dn) ⟨ρ,F1,R.grow gg,Same.refl _,o.grow gg.ff⟩ (fun k σ' H' _ ⟨ρ',F',R',s',_⟩=>hG H' (s'.trans R'.fh)) ?_ ?_
  ·rintro k x σ' H' hx ⟨ρ',F',R',s',o'⟩
   obtain⟨d,hd,qd⟩:=dq.get hx
   have hdr:ds.drop k=d::ds.drop (k+1):=by
    obtain⟨hk,e2⟩:=List.getElem?_eq_some_iff.mp hd
    rw[List.drop_eq_getElem_cons hk,e2]
   rw[hdr] at o'
   unfold forD at o'
   refine ru H0 F0 _ _ H' F' _ (R'.set (qd.mono s')) ?_
   cases e2:g (ρ'.set i (.fz d)) with
   | nx ρ2=>simp only[e2] at o';exact fun σ2 H2 F2 R2 s2=>⟨ρ2,F2,R2,s'.trans s2,o'.grow s2⟩
   | ct ρ2=>simp only[e2] at o';exact fun σ2 H2 F2 R2 s2=>⟨ρ2,F2,R2,s'.trans s2,o'.grow s2⟩
   | bk ρ2=>simp only[e2] at o';exact o'
   | rt d=>simp only[e2] at o';exact o'
   | ex n=>simp only[e2] at o';exact o'
   | no=>simp only[e2] at o';exact o'
  ·rintro σ' H' ⟨ρ',F',R',s',o'⟩
   rw[List.drop_of_length_le (by rw[dq.length];exact Nat.le_refl _)] at o'
   exact o' σ' H' F' R' (Same.refl _)
 | ex n=>rw[e] at o;exact o
 | no=>rw[e] at o;exact o
end
end L2
namespace L2
open PySem PySem.Spec PyProof.Rows
def capR (n:Nat)(caps:List Nat)(ρ:Rho):Rho:=List.replicate n .no++caps.map fun i=>match ρ[i]? with|some (.fz d)=>.fz d|_=>.no
def bTrue:Rho→Rs Bool:=fun _=>.ok true
def compD (ft:Rho→Rs Bool)(fe:Rho→Rs D)(ρ0:Rho):List D→Rs (List D)
 | []=>.ok []
 | d::ds=>match ft (ρ0.set 0 (.fz d)) with
  | .ok true=>(match fe (ρ0.set 0 (.fz d)) with | .ok e=>(compD ft fe ρ0 ds).bind fun es=>.ok (e::es)|_=>.no)
  | .ok false=>compD ft fe ρ0 ds
  | _=>.no
def fCp (fi:Rho→Rs (List D))(ft:Rho→Rs Bool)(fe:Rho→Rs D)(caps:List Nat):Rho→Rs (List D):=fun ρ=>(fi ρ).bind fun ds=>if ds.length≤1000000 then compD ft fe (capR 1 caps ρ) ds else .no
def xJ (fi:Rho→Rs (List D))(ft:Rho→Rs Bool)(fe:Rho→Rs D)(caps:List Nat):Rho→Rs D:=fun ρ=>(fCp fi ft fe caps ρ).bind fun es=>.ok (.lst es)
def XTs (X:Cx)(cl:Nat→Addr)(E:XK)(ifs:List Expr)(f:Rho→Rs Bool):Prop:=PTs X ifs (tDB X.K cl E f)
section
variable {X:Cx}{cl:Nat→Addr}{E:XK}
theorem xts_nil:XTs X cl E [] bTrue:=fun pins s σ H Q I ⟨H0,F0,ρ,F,R,o⟩=>wpAny_tests_nil ⟨H,I,o H F (Gr.refl R.fh)⟩
theorem xts_one {c:Expr}{f:Rho→Rs Bool}(h:XT X cl E c f):XTs X cl E [c] f:=fun pins s σ H Q I hq=>wpAny_tests_one (h pins s σ H Q I hq)
theorem compD_noex {ft:Rho→Rs Bool}{fe:Rho→Rs D}{ρ0:Rho}:∀{ds:List D}{n:Nat},compD ft fe ρ0 ds≠.ex n
 | [],n=>fun h=>by cases h
 | d :: ds,n=>fun h=>by
  unfold compD at h
  split at h
  ·split at h
   ·cases e:compD ft fe ρ0 ds with
    | ok es=>rw[e] at h;cases h
    | ex m=>exact compD_noex e
    | no=>rw[e] at h;cases h
   ·cases h
  ·exact compD_noex h
  ·cases h
theorem Rl.cap {K:PySem.W.Frag}{H0 F0 H F:Hp}{ρ:Rho}{σ:St}(R:Rl K cl H0 F0 ρ σ H F)(own:List Str)(caps:List Nat):Rl K cl H F (capR own.length caps ρ) (capS own caps σ) H F where
 gr:=Gr.refl R.fh
 len:=by simp[capR,capS]
 fz := fun i d e=>by
  unfold capR at e
  unfold capS
  rcases Nat.lt_or_ge i own.length with h|h
  ·rw[List.getElem?_append_left (by simpa using h),List.getElem?_replicate,if_pos h] at e
   cases e
  ·rw [List.getElem?_append_right (by simpa using h),List.length_replicate,List.getElem?_map] at e
   rw[List.getElem?_append_right (by simpa using h),List.length_map,List.getElem?_map]
   cases c:caps[i - own.length]? with
   | none=>rw[c] at e;cases e
   | some k =>
    rw[c] at e
    have e':=Option.some.inj e
    dsimp only at e'
    split at e'
    ·rename_i d' z
     injection e' with e'
     subst e'
     obtain⟨v,h1,h2⟩:=R.fz k _ z
     exact⟨v,by show some ((σ[k]?).getD none)=some (some v);rw[h1];rfl,h2⟩
    ·cases e'
 own := fun i s e o=>by
  exfalso
  unfold capR at e
  rcases Nat.lt_or_ge i own.length with h|h
  ·rw[List.getElem?_append_left (by simpa using h),List.getElem?_replicate,if_pos h] at e
   injection e with e;subst e;cases o
  ·rw [List.getElem?_append_right (by simpa using h),List.length_replicate,List.getElem?_map] at e
   cases c:caps[i - own.length]? with
   | none=>rw[c] at e;cases e
   | some k =>
    rw[c] at e
    have e':=Option.some.inj e
    dsimp only at e'
    split at e' <;>(subst e';cases o)
 ap := fun i j s t a z1 z2 o1 o2 e1 e2=>by
  exfalso
  unfold capR at z1
  rcases Nat.lt_or_ge i own.length with h|h
  ·rw[List.getElem?_append_left (by simpa using h),List.getElem?_replicate,if_pos h] at z1
   injection z1 with z1;subst z1;cases o1
  ·rw [List.getElem?_append_right (by simpa using h),List.length_replicate,List.getElem?_map] at z1
   cases c:caps[i - own.length]? with
   | none=>rw[c] at z1;cases z1
   | some k =>
    rw[c] at z1
    have e':=Option.some.inj z1
    dsimp only at e'
    split at e' <;>(subst e';cases o1)
theorem turnsD {K:PySem.W.Frag}{H0 F0 H F:Hp}{ρ:Rho}{σ:St}{x:Str}{caps:List Nat}{ft:Rho→Rs Bool}{fe:Rho→Rs D}{ds es:List D}{J:It}{G:Hp→Prop}{vs:List V}{Fn:List V→Hp→Prop}(R:Rl K cl H0 F0 ρ σ H F)(W:Wlk J G vs)(hG:∀H'',Same F H''→G H'')(dq:Dts K cl F vs ds)(hl:ds.length≤1000000)
  (hc:compD ft fe (capR 1 caps ρ) ds=.ok es) (k:∀ys H' F',Gr F H F' H'→Dts K cl F' ys es→Fn ys H'):tTurns (gName 0) (tDB K cl E0 ft) (tDE K cl E0 fe) (capS [x] caps σ) Fn J H:=by
 have hz:vs.length≤sizeLine:=sz6 (dq.length▸hl)
 refine turns_wlk W hz (fun i ys H'=>∃F' es1 es2,Gr F H F' H'∧Dts K cl F' ys es1∧ys.length≤i∧es=es1++es2∧compD ft fe (capR 1 caps ρ) (ds.drop i)=.ok es2) ⟨F,[],es,Gr.refl R.fh,.nil,Nat.le_refl _,rfl,hc⟩ (fun i ys H' _ ⟨F',_,_,g,_,h1,_⟩=>⟨hG H' (g.ff.trans g.fh),h1⟩) ?_ ?_
 ·rintro i v ys H' hv ⟨F',es1,es2,g,q1,hly,rfl,hc'⟩
  obtain⟨d,hd,qd⟩:=dq.get hv
  have hdr:ds.drop i=d::ds.drop (i+1):=by
   obtain⟨hk,e2⟩:=List.getElem?_eq_some_iff.mp hd
   rw[List.drop_eq_getElem_cons hk,e2]
  rw[hdr] at hc'
  unfold compD at hc'
  have R1:=(R.grow g).cap [x] caps
  have R2:Rl K cl H' F' ((capR 1 caps ρ).set 0 (.fz d)) ((capS [x] caps σ).set 0 (some v)) H' F':=R1.set (qd.mono g.ff)
  refine⟨Kps.set rfl,H',F',_,F',R2,?_⟩
  cases e1:ft ((capR 1 caps ρ).set 0 (.fz d)) with
  | ok b =>
   rw[e1] at hc'
   intro H2 F2 g2
   cases b with
   | true =>
    rw[if_pos rfl]
    cases e2:fe ((capR 1 caps ρ).set 0 (.fz d)) with
    | ok e =>
     simp only[e2] at hc'
     refine⟨H',F',_,F2,R2.grow g2,?_⟩
     rw[e2]
     intro y H3 F3 g3 qy
     cases e3:compD ft fe (capR 1 caps ρ) (ds.drop (i+1)) with
     | ok es3 =>
      rw[e3] at hc'
      injection hc' with hc'
      exact⟨F3,es1++[e],es3,g.trans (g2.trans g3),(q1.mono (g2.ff.trans g3.ff)).append (.cons qy .nil),by simp;exact hly,by rw[← hc',List.append_assoc];rfl,rfl⟩
     | ex n=>rw[e3] at hc';cases hc'
     | no=>rw[e3] at hc';cases hc'
    | ex n=>simp only[e2] at hc';cases hc'
    | no=>simp only[e2] at hc';cases hc'
   | false =>
    rw[if_neg Bool.false_ne_true]
    exact⟨F2,es1,es2,g.trans g2,q1.mono g2.ff,Nat.le_succ_of_le hly,rfl,hc'⟩
  | ex n=>rw[e1] at hc';cases hc'
  | no=>rw[e1] at hc';cases hc'
 ·rintro ys H' ⟨F',es1,es2,g,q1,hly,rfl,hc'⟩
  rw[List.drop_of_length_le (by rw[dq.length];exact Nat.le_refl _)] at hc'
  injection hc' with hc'
  rw[← hc',List.append_nil] at k
  exact k ys H' F' g q1
variable {scope:Scope}{x:Str}{caps:List Nat}{elt tg iter:Expr}{ifs:List Expr}{fi:Rho→Rs (List D)}{ft:Rho→Rs Bool}{fe:Rho→Rs D}{pos:Pos}
structure CompD (X:Cx)(cl:Nat→Addr)(scope:Scope)(x:Str)(caps:List Nat)(tg:Expr)(ifs:List Expr)(elt:Expr)(ft:Rho→Rs Bool)(fe:Rho→Rs D):Prop where
 tgt:∀pins C ex s H,PG (cxC X pins scope [x] caps C ex s H) tg (gName 0)
 tst:∀pins C ex s H,XTs (cxC X pins scope [x] caps C ex s H) cl E0 ifs ft
 elm:∀pins C ex s H,XE (cxC X pins scope [x] caps C ex s H) cl E0 elt fe
theorem CompD.ci (h:CompD X cl scope x caps tg ifs elt ft fe):CompIn X scope [x] caps tg ifs elt (gName 0) (tDB X.K cl E0 ft) (tDE X.K cl E0 fe):=⟨h.tgt,h.tst,h.elm⟩
theorem OutI.comp {K:PySem.W.Frag}{H0 F0 H F:Hp}{ρ:Rho}{σ:St}{P:List V→Hp→Prop}(R:Rl K cl H0 F0 ρ σ H F)(o:OutA K cl E H0 F H (fCp fi ft fe caps ρ) P):OutI K cl E H0 F H (fi ρ) fun J H1=>tTurns (gName 0) (tDB K cl E0 ft) (tDE K cl E0 fe) (capS [x] caps σ) P J H1:=by
 unfold fCp at o
 cases e:fi ρ with
 | ok ds =>
  rw[e] at o
  have o1:OutA K cl E H0 F H (if ds.length≤1000000 then compD ft fe (capR 1 caps ρ) ds else .no) P:=o
  intro J G vs H1 F1 g W hG dq
  split at o1
  ·rename_i hl
   cases e2:compD ft fe (capR 1 caps ρ) ds with
   | ok es=>rw[e2] at o1;exact turnsD (R.grow g) W hG dq hl e2 fun ys H' F' g' q=>o1 ys H' F' (g.trans g') q
   | ex n=>exact absurd e2 compD_noex
   | no=>rw[e2] at o1;exact o1.elim
  ·exact o1.elim
 | ex n=>rw[e] at o;exact o
 | no=>rw[e] at o;exact o
theorem xe_comp (ok:CompOk X scope caps)(hc:X.calm=true)(hi:XI X cl E tg iter fi)(CI:CompD X cl scope x caps tg ifs elt ft fe)(hs:∀x,foldedSetIterable iter X.env x=pure x:=by intro _;rfl):XE X cl E (.ListComp elt [⟨tg,iter,ifs,0⟩] scope pos) (xJ fi ft fe caps):=by
 refine XE'.out ⟨_,pe_comp ok hc hi CI.ci hs,fun H0 F0 ρ σ H F Q R o=>⟨H0,F0,ρ,F,R,OutI.comp R ?_⟩⟩
 refine OutA.fst o fun es ys H' F' g q o1=>?_
 intro p hp
 have fh:=(R.grow g).fh
 exact o1 _ _ _ (Gr.new fh hp) (.lst (.inl (.inl zX)) (q.mono (Same.upd (fh.free hp))))
def sSetA (j:Nat)(fs:Rho→Rs (List D)):Rho→Out:=fun ρ=>match fs ρ with | .ok es=>.nx (ρ.set j (.fz (.lst es))) | .ex n=>.ex n | .no=>.no
def sSetO (j:Nat)(fs:Rho→Rs (List D)):Rho→Out:=fun ρ=>match fs ρ with | .ok es=>.nx (ρ.set j (.ow es)) | .ex n=>.ex n | .no=>.no
theorem xs_comp {j:Nat}{y:Str}{py spos:Pos}(hN:X.N.Nodup)(hj:X.N[j]? = some y)(hy:X.env.scope.names.lookup y=some .local)(ok:CompOk X scope caps)(hc:X.calm=true)(hi:XI X cl E tg iter fi)(CI:CompD X cl scope x caps tg ifs elt ft fe)
  (hsw:swapsWith (.ListComp elt [⟨tg,iter,ifs,0⟩] scope pos) (some (.Name y py)) spos.line X.env=pure true) (hs:∀x,foldedSetIterable iter X.env x=pure x:=by intro _;rfl):XS X cl E (.Assign [.Name y py] (.ListComp elt [⟨tg,iter,ifs,0⟩] scope pos) spos) (sSetA j (fCp fi ft fe caps)):=by
 refine XS'.out ⟨_,ps_comp hN hj hy ok hc hi CI.ci hsw hs,fun H0 F0 ρ σ H F Dn R o=>⟨H0,F0,ρ,F,R,OutI.comp R ?_⟩⟩
 unfold sSetA at o
 cases e:fCp fi ft fe caps ρ with
 | ok es =>
  rw[e] at o
  intro ys H' F' g q p hp
  have fh:=(R.grow g).fh
  have g2:Gr F' H' (upd F' p (.lst ys)) (upd H' p (.lst ys)):=Gr.new fh hp
  exact o _ _ _ (((R.grow g).grow g2).set (.lst (.inl (.inl zX)) (q.mono g2.ff))) (g.ff.trans g2.ff)
 | ex n=>rw[e] at o;exact o
 | no=>rw[e] at o;exact o
theorem xs_compO {j:Nat}{y:Str}{py spos:Pos}(hN:X.N.Nodup)(hj:X.N[j]? = some y)(hy:X.env.scope.names.lookup y=some .local)(ok:CompOk X scope caps)(hc:X.calm=true)(hi:XI X cl E tg iter fi)(CI:CompD X cl scope x caps tg ifs elt ft fe)
  (hsw:swapsWith (.ListComp elt [⟨tg,iter,ifs,0⟩] scope pos) (some (.Name y py)) spos.line X.env=pure true) (hs:∀x,foldedSetIterable iter X.env x=pure x:=by intro _;rfl):XS X cl E (.Assign [.Name y py] (.ListComp elt [⟨tg,iter,ifs,0⟩] scope pos) spos) (sSetO j (fCp fi ft fe caps)):=by
 refine XS'.out ⟨_,ps_comp hN hj hy ok hc hi CI.ci hsw hs,fun H0 F0 ρ σ H F Dn R o=>⟨H0,F0,ρ,F,R,OutI.comp R ?_⟩⟩
 unfold sSetO at o
 cases e:fCp fi ft fe caps ρ with
 | ok es =>
  rw[e] at o
  intro ys H' F' g q p hp
  exact o _ _ _ ((R.grow g).setO hp q) g.ff
 | ex n=>rw[e] at o;exact o
 | no=>rw[e] at o;exact o
end
end L2
namespace L2
open PySem PySem.Spec PyProof.Rows
def Fn1 (K:PySem.W.Frag)(cl:Nat→Addr)(r:List V→Hp→VK→Prop)(g:List D→Option D):Prop :=
 ∀(F H:Hp) (vs:List V) (ds:List D) (d:D) (Q:VK),Same F H→Dts K cl F vs ds→g ds=some d→(∀v H' F',Gr F H F' H'→Dt K cl F' v d→Q v H')→r vs H Q
def lenD:List D→Option D
 | [.str l]=>some (.int l.length)
 | [.lst l]=>some (.int l.length)
 | [.tup l]=>some (.int l.length)
 | _=>none
def unB:D→Bool
 | .bl b=>b
 | _=>false
def isB:D→Bool
 | .bl _=>true
 | _=>false
def unS:D→List Nat
 | .str l=>l
 | _=>[]
def isS:D→Bool
 | .str _=>true
 | _=>false
def allD:List D→Option D
 | [.lst ds]=>if ds.all isB=true then some (.bl (ds.all unB)) else none
 | _=>none
def anyD:List D→Option D
 | [.lst ds]=>if ds.all isB=true then some (.bl (ds.any unB)) else none
 | _=>none
def sortL (ds:List D):Option (List D):=if ds.all isS=true∧ds.length<64 then some ((My.sortF (ds.map unS)).map .str) else none
def sortD:List D→Option (List D)
 | [.lst ds]=>sortL ds
 | [.tup ds]=>sortL ds
 | _=>none
def tupD:List D→Option D
 | [.lst ds]=>some (.tup ds)
 | [.tup ds]=>some (.tup ds)
 | _=>none
def yJ:D→D→Option D
 | .str l,.str m=>some (.bl (m.isPrefixOf l))
 | _,_=>none
def joinD:D→D→Option D
 | .str [],.lst ds=>if ds.all isS=true∧(ds.map unS).flatten.length≤1000000 then some (.str (ds.map unS).flatten) else none
 | _,_=>none
def isiD (g:PyData→Bool)(d:D):Option D:=if d.pl=true then some (.bl (g d.py)) else none
def isInt:PyData→Bool:=fun d=>match d with | .int _=>true | .bool _=>true|_=>false
def isBool:PyData→Bool:=fun d=>match d with | .bool _=>true|_=>false
def isStr:PyData→Bool:=fun d=>match d with | .str _=>true|_=>false
def isTup:PyData→Bool:=fun d=>match d with | .tuple _=>true|_=>false
section
variable {K:PySem.W.Frag}{cl:Nat→Addr}{F H:Hp}
theorem Dts.bools:∀{vs:List V}{ds:List D},Dts K cl F vs ds→ds.all isB=true→vs=(ds.map unB).map V.bl
 | _,_,.nil,_=>rfl
 | _,_,.cons q r,h=>by
  rw[List.all_cons,Bool.and_eq_true] at h
  have:=Dts.bools r h.2
  cases q <;>simp[isB] at h
  rw[this];rfl
theorem Dts.texts:∀{vs:List V}{ds:List D},Dts K cl F vs ds→ds.all isS=true→vs=vT (ds.map unS)∧(∀x∈ds.map unS,TxtOk (T x))∧ds=(ds.map unS).map .str
 | _,_,.nil,_=>⟨rfl,by simp,rfl⟩
 | _,_,.cons q r,h=>by
  rw[List.all_cons,Bool.and_eq_true] at h
  obtain⟨e1,e2,e3⟩:=Dts.texts r h.2
  cases q with
  | str l ok =>
   refine⟨by rw[e1];rfl,fun x hx=>?_,by rw[List.map_cons,List.map_cons,← e3];rfl⟩
   rw[List.map_cons] at hx
   rcases List.mem_cons.mp hx with rfl|hx
   ·exact ok
   ·exact e2 x hx
  | _=>simp[isS] at h
theorem dts_texts {ls:List (List Nat)}(h:∀x∈ls,TxtOk (T x)):Dts K cl F (vT ls) (ls.map .str):=dts_map fun x hx=>.str x (h x hx)
theorem n_len:Fn1 K cl (fun xs H Q=>∃x n,xs=[x]∧LenV K x H n∧Q (.int n) H) lenD:=fun F H vs ds d Q s q e k=>by
 match ds,q,e with
 | [.str l],q,e =>
  obtain⟨v,rfl,q1⟩:=q.one
  obtain rfl:=Option.some.inj e
  cases q1 with
  | str l ok=>exact⟨_,l.length,rfl,⟨sz6 ok.2,(T_len l).symm⟩,k _ _ _ (Gr.refl s) (.int _)⟩
 | [.lst l],q,e =>
  obtain⟨v,rfl,q1⟩:=q.one
  obtain rfl:=Option.some.inj e
  cases q1 with
  | lst sq dq=>exact⟨_,l.length,rfl,.inl ⟨_,s.seq sq,dq.length.symm⟩,k _ _ _ (Gr.refl s) (.int _)⟩
 | [.tup l],q,e =>
  obtain⟨v,rfl,q1⟩:=q.one
  obtain rfl:=Option.some.inj e
  cases q1 with
  | tup sq dq=>exact⟨_,l.length,rfl,.inr ⟨_,s.seqT sq,dq.length.symm⟩,k _ _ _ (Gr.refl s) (.int _)⟩
theorem n_all:Fn1 K cl (fun xs H Q=>∃(a:Addr) (bs:List Bool),xs=[.ref a]∧SqL K H a (bs.map V.bl)∧Q (.bl (bs.all id)) H) allD:=fun F H vs ds d Q s q e k=>by
 match ds,q,e with
 | [.lst l],q,e =>
  obtain⟨v,rfl,q1⟩:=q.one
  dsimp only [allD] at e
  split at e
  ·rename_i h
   obtain rfl:=Option.some.inj e
   cases q1 with
   | lst sq dq =>
    rw[dq.bools h] at sq
    refine⟨_,_,rfl,s.seq sq,?_⟩
    have:=k _ _ _ (Gr.refl s) (.bl (l.all unB))
    rwa [List.all_map]
  ·cases e
theorem n_any:Fn1 K cl (fun xs H Q=>∃(a:Addr) (bs:List Bool),xs=[.ref a]∧SqL K H a (bs.map V.bl)∧Q (.bl (bs.any id)) H) anyD:=fun F H vs ds d Q s q e k=>by
 match ds,q,e with
 | [.lst l],q,e =>
  obtain⟨v,rfl,q1⟩:=q.one
  dsimp only [anyD] at e
  split at e
  ·rename_i h
   obtain rfl:=Option.some.inj e
   cases q1 with
   | lst sq dq =>
    rw[dq.bools h] at sq
    refine⟨_,_,rfl,s.seq sq,?_⟩
    have:=k _ _ _ (Gr.refl s) (.bl (l.any unB))
    rwa [List.any_map]
  ·cases e
theorem n_tup:Fn1 K cl (fun xs H Q=>∃p ys,xs=[.ref p]∧((SqL K H p ys∧∀l,H l=none→Q (.ref l) (upd H l (.tup ys)))∨(SqT K H p ys∧Q (.ref p) H))) tupD:=fun F H vs ds d Q s q e k=>by
 match ds,q,e with
 | [.lst l],q,e =>
  obtain⟨v,rfl,q1⟩:=q.one
  obtain rfl:=Option.some.inj e
  cases q1 with
  | lst sq dq=>exact⟨_,_,rfl,.inl ⟨s.seq sq,fun p hp=>k _ _ _ (Gr.new s hp) (.tup (.inl (.inl zX)) (dq.mono (Same.upd (s.free hp))))⟩⟩
 | [.tup l],q,e =>
  obtain⟨v,rfl,q1⟩:=q.one
  obtain rfl:=Option.some.inj e
  cases q1 with
  | tup sq dq=>exact⟨_,_,rfl,.inr ⟨s.seqT sq,k _ _ _ (Gr.refl s) (.tup sq dq)⟩⟩
end
section
variable {X:Cx}{cl:Nat→Addr}{E:XK}{e o:Expr}{es:List Expr}{fa fb:Rho→Rs D}{fs:Rho→Rs (List D)}{x:Str}{p pos:Pos}
theorem zL {id:String}{r:List V→Hp→VK→Prop}{g:List D→Option D}(hc:CallR X (.builtin id) r)(hF:Fn1 X.K cl r g)(hg:Gl X x)(hm:X.mg x=none)(hv:bootBuiltins x=some (.builtin id))(ha:XA X cl E (e::es) fs)(he:starEach (e::es) X.env=(false,eval e X.env)::starEach es X.env)(hn:x ≠ "__name__" := by decide)(hdb:(x == ("__debug__" : Str))=false:=by decide)(hpl:(backTo pos (starEach es X.env)).any (·.1)=false:=by rfl):XE X cl E (.Call (.Name x p) (e::es) [] pos) (fO g fs):=by
 obtain⟨t,pt,rt⟩:=ha.ex
 refine XE'.out ⟨_,pe_callB hc hg hm hv pt hn hdb he hpl,fun H0 F0 ρ σ H F Q R o=>rt H0 F0 ρ σ H F _ R (OutA.fst o fun ds vs H1 F1 g1 q o1=>?_)⟩
 obtain⟨z,hz,k⟩:=o1.lf
 exact hF F1 H1 vs ds z _ (R.grow g1).fh q hz k
theorem xe_callTy {T:String}{r:List V→Hp→VK→Prop}{g:List D→Option D}(hc:CallR X (.type T) r)(hF:Fn1 X.K cl r g)(hg:Gl X x)(hm:X.mg x=none)(hv:bootBuiltins x=some (.type T))(ha:XA X cl E (e::es) fs)(he:starEach (e::es) X.env=(false,eval e X.env)::starEach es X.env)(hn:x ≠ "__name__" := by decide)(hdb:(x == ("__debug__" : Str))=false:=by decide)(hpl:(backTo pos (starEach es X.env)).any (·.1)=false:=by rfl):XE X cl E (.Call (.Name x p) (e::es) [] pos) (fO g fs):=by
 obtain⟨t,pt,rt⟩:=ha.ex
 refine XE'.out ⟨_,pe_callTy hc hg hm hv pt hn hdb he hpl,fun H0 F0 ρ σ H F Q R o=>rt H0 F0 ρ σ H F _ R (OutA.fst o fun ds vs H1 F1 g1 q o1=>?_)⟩
 obtain⟨z,hz,k⟩:=o1.lf
 exact hF F1 H1 vs ds z _ (R.grow g1).fh q hz k
theorem xe_isi {n:String}{b:Expr}{g:PyData→Bool}(hk:∀d,PySem.W.kitOne X.K (.type (tyN d)) (.type n)=some (g d))(hg:Gl X "isinstance")(hm:X.mg "isinstance" = none)(ha:XE X cl E e fa)(hb:PE X b (tC (.ty n)))(h1:starEach [e,b] X.env=(false,eval e X.env)::starEach [b] X.env)(h2:starEach [b] X.env=(false,eval b X.env)::starEach [] X.env:=by rfl)(hpl:(backTo pos (starEach [b] X.env)).any (·.1)=false:=by rfl):XE X cl E (.Call (.Name "isinstance" p) [e,b] [] pos) (f1 (isiD g) fa):=by
 obtain⟨t,pt,rt⟩:=ha.ex
 refine XE'.out ⟨_,pe_callB call_isinstD hg hm boot_isinstance (yU pt (yU hb pa_nil h2) h1) (by decide) (by decide) h1 hpl,fun H0 F0 ρ σ H F Q R o=>rt H0 F0 ρ σ H F _ R (OutE.fst o fun d v H1 F1 g1 q o1=>?_)⟩
 obtain⟨z,hz,k⟩:=o1.lf
 unfold isiD at hz
 split at hz
 ·rename_i hp
  obtain rfl:=Option.some.inj hz
  have fh:=(R.grow g1).fh
  exact⟨v,d.py,n,g d.py,rfl,(q.is hp).mono fh,hk _,k _ _ _ (Gr.refl fh) (.bl _)⟩
 ·cases hz
def fM (chk:D→Bool)(g:D→D→Option D)(fa fb:Rho→Rs D):Rho→Rs D:=fun ρ=>(fa ρ).bind fun a=>if chk a=true then(fb ρ).bind fun b=>lf (g a b) else .no
structure Mth (X:Cx)(o e:Expr)(name:Str)(apos cpos:Pos):Prop where
 hs:starEach [e] X.env=(false,eval e X.env)::starEach [] X.env
 base:attributeBase o name X.env (eval o X.env)=eval o X.env
 few:((backTo cpos (starEach [e] X.env)).all (fun x=>!x.1)&&(backToKw cpos (keywordEach [] X.env)).all (fun x=>x.1.isSome)&&decide (([e]:List Expr).length+([]:List Keyword).length+(if ([]:List Keyword).isEmpty then 0 else 1)<30))=true
 line:(apos.endLine == cpos.line)=true
 plain:(backTo cpos (starEach [] X.env)).any (·.1)=false
theorem xe_starts {apos cpos:Pos}(ho:XE X cl E o fa)(ha:XE X cl E e fb)(m:Mth X o e "startswith" apos cpos):XE X cl E (.Call (.Attribute o "startswith" apos) [e] [] cpos) (fM isS yJ fa fb):=by
 obtain⟨t,pt,rt⟩:=ho.ex
 obtain⟨u,pu,ru⟩:=ha.ex
 refine XE'.out ⟨_,pe_bm PySem.F.plainAttrs_str PySem.F.slot_str_startswith PySem.F.type_str_startswith mt_starts pt (yU pu pa_nil m.hs) m.base m.few m.line m.hs m.plain,fun H0 F0 ρ σ H F Q R o=>rt H0 F0 ρ σ H F _ R (OutE.fst o fun d v H1 F1 g1 q o1=>?_)⟩
 split at o1
 ·rename_i hd
  cases q with
  | str l ok =>
   refine⟨rfl,ru H0 F0 ρ σ H1 F1 _ (R.grow g1) (OutE.fst o1 fun d2 v2 H2 F2 g2 q2 o2=>?_)⟩
   obtain⟨z,hz,k⟩:=o2.lf
   cases q2 with
   | str m ok2 =>
    obtain rfl:=Option.some.inj hz
    exact⟨l,m,rfl,rfl,k _ _ _ (Gr.refl (R.grow (g1.trans g2)).fh) (.bl _)⟩
   | _=>cases hz
  | _=>cases hd
 ·exact o1.elim
theorem xe_join {apos cpos:Pos}(ho:XE X cl E o fa)(ha:XE X cl E e fb)(m:Mth X o e "join" apos cpos):XE X cl E (.Call (.Attribute o "join" apos) [e] [] cpos) (fM isS joinD fa fb):=by
 obtain⟨t,pt,rt⟩:=ho.ex
 obtain⟨u,pu,ru⟩:=ha.ex
 refine XE'.out ⟨_,pe_bm PySem.F.plainAttrs_str PySem.F.slot_str_join PySem.F.type_str_join mt_join pt (yU pu pa_nil m.hs) m.base m.few m.line m.hs m.plain,fun H0 F0 ρ σ H F Q R o=>rt H0 F0 ρ σ H F _ R (OutE.fst o fun d v H1 F1 g1 q o1=>?_)⟩
 split at o1
 ·rename_i hd
  cases q with
  | str l ok =>
   refine⟨rfl,ru H0 F0 ρ σ H1 F1 _ (R.grow g1) (OutE.fst o1 fun d2 v2 H2 F2 g2 q2 o2=>?_)⟩
   obtain⟨z,hz,k⟩:=o2.lf
   cases q2 with
   | lst sq dq =>
    rename_i ds
    match l,hz with
    | [],hz =>
     dsimp only [joinD] at hz
     split at hz
     ·rename_i h
      obtain rfl:=Option.some.inj hz
      obtain⟨e1,e2,e3⟩:=dq.texts h.1
      have fh:=(R.grow (g1.trans g2)).fh
      rw[e1] at sq
      refine⟨_,ds.map unS,rfl,rfl,fh.seq sq,h.2,k _ _ _ (Gr.refl fh) (.str _ (T_ok (fun c hc=>?_) h.2))⟩
      obtain⟨y,hy,hc⟩:=List.mem_flatten.mp hc
      have a:(T y).cps.all (· < 0x110000)=true:=(e2 y hy).1
      simp only[T,List.all_toArray,List.all_eq_true,decide_eq_true_eq] at a
      exact a c hc
     ·cases hz
    | _::_,hz=>cases hz
   | _=>cases l <;>cases hz
  | _=>cases hd
 ·exact o1.elim
theorem xe_ix {a b:Expr}(ha:XE X cl E a fa)(hb:XE X cl E b fb)(hs:PlainIx b):XE X cl E (.Subscript a b pos) (f2 ixD fa fb):=by
 obtain⟨t,pt,rt⟩:=ha.ex
 obtain⟨u,pu,ru⟩:=hb.ex
 refine XE'.out ⟨_,pe_ix ix_seq pt pu hs,fun H0 F0 ρ σ H F Q R o=>rt H0 F0 ρ σ H F _ R (OutE.fst o fun d v H1 F1 g1 q o1=>?_)⟩
 refine ru H0 F0 ρ σ H1 F1 _ (R.grow g1) (OutE.fst o1 fun e w H2 F2 g2 q2 o2=>?_)
 obtain⟨z,hz,k⟩:=o2.lf
 exact o_ix F2 H2 v w d e z _ (R.grow (g1.trans g2)).fh (q.mono g2.ff) q2 hz k
def yR:Rho→Rs (Option Int):=fun _=>.ok none
def yq (f:Rho→Rs D):Rho→Rs (Option Int):=fun ρ=>(f ρ).bind fun d=>match d with | .int i=>.ok (some i)|_=>.no
theorem xo_none:XO' X cl E none yR:=⟨_,po_none,fun H0 F0 ρ σ H F Q R o=>o H F (Gr.refl R.fh)⟩
theorem xg (h:XE X cl E e fa):XO' X cl E (some e) (yq fa):=by
 obtain⟨t,pt,rt⟩:=h.ex
 refine⟨_,po_some pt,fun H0 F0 ρ σ H F Q R o=>rt H0 F0 ρ σ H F _ R ?_⟩
 unfold yq at o
 cases e:fa ρ with
 | ok d =>
  rw[e] at o
  intro v H' F' g q
  cases q with
  | int i=>exact⟨i,rfl,o H' F' g⟩
  | _=>exact o.elim
 | ex n=>rw[e] at o;exact o
 | no=>rw[e] at o;exact o
def fSl (fa:Rho→Rs D)(fl fh:Rho→Rs (Option Int)):Rho→Rs D:=fun ρ=>(fa ρ).bind fun a=>(fl ρ).bind fun l=>(fh ρ).bind fun h=>lf (slD a l h)
theorem cutL_len {α:Type}(xs:List α)(lo hi:Option Int):(cutL xs lo hi).length≤xs.length:=by
 unfold cutL
 rw[List.length_take,List.length_drop];omega
theorem Dts.cut {K:PySem.W.Frag}{F:Hp}{vs:List V}{ds:List D}(q:Dts K cl F vs ds)(lo hi:Option Int):Dts K cl F (cutV vs lo hi) (cutL ds lo hi):=by
 unfold cutV cutL
 rw[q.length]
 exact(q.drop _).take _
theorem yS {lo hi:Option Expr}{p2:Pos}{fl fh:Rho→Rs (Option Int)}(ha:XE X cl E e fa)(hl:XO' X cl E lo fl)(hh:XO' X cl E hi fh):XE X cl E (.Subscript e (.Slice lo hi none p2) pos) (fSl fa fl fh):=by
 obtain⟨t,pt,rt⟩:=ha.ex
 obtain⟨u,pu,ru⟩:=hl
 obtain⟨w,pw,rw'⟩:=hh
 refine XE'.out ⟨_,pe_slice (SlR.or sl_list (SlR.or sl_tupU sl_str)) pt pu pw,fun H0 F0 ρ σ H F Q R o=>rt H0 F0 ρ σ H F _ R (OutE.fst o fun d v H1 F1 g1 q o1=>?_)⟩
 refine ru H0 F0 ρ σ H1 F1 _ (R.grow g1) ?_
 cases e1:fl ρ with
 | ok l =>
  rw[e1] at o1
  intro H2 F2 g2
  refine rw' H0 F0 ρ σ H2 F2 _ ((R.grow g1).grow g2) ?_
  cases e2:fh ρ with
  | ok h =>
   rw[e2] at o1
   intro H3 F3 g3
   have o3:OutE X.K cl E H0 F3 H3 (lf (slD d l h)) Q:=OutE.grow o1 (g2.trans g3)
   obtain⟨z,hz,k⟩:=o3.lf
   have fh:=(((R.grow g1).grow g2).grow g3).fh
   have q3:=q.mono (g2.trans g3).ff
   cases q3 with
   | lst sq dq =>
    obtain rfl:=Option.some.inj hz
    refine .inl ⟨_,_,rfl,fh.seq sq,fun p hp=>k _ _ _ (Gr.new fh hp) (.lst (.inl (.inl zX)) ((dq.cut l h).mono (Same.upd (fh.free hp))))⟩
   | tup sq dq =>
    obtain rfl:=Option.some.inj hz
    refine .inr (.inl ⟨_,_,rfl,fh.seqT sq,fun p H' hs qq=>?_⟩)
    obtain⟨F',g,q'⟩:=Gr.tup fh hs qq (dq.cut l h)
    exact k _ _ _ g q'
   | str ls ok =>
    obtain rfl:=Option.some.inj hz
    refine .inr (.inr ⟨_,rfl,sz6 ok.2,?_⟩)
    rw[T_cps,T_len]
    refine k _ _ _ (Gr.refl fh) (.str (cutL ls l h) (txt_sub ok (fun c hc=>?_) (Nat.le_trans (cutL_len _ _ _) (by have:=ok.2;rw[T_len] at this;exact this))))
    exact List.mem_of_mem_drop (List.mem_of_mem_take hc)
   | _=>cases hz
  | ex n=>rw[e2] at o1;exact o1
  | no=>rw[e2] at o1;exact o1
 | ex n=>rw[e1] at o1;exact o1
 | no=>rw[e1] at o1;exact o1
end
end L2
namespace L2
open PySem PySem.Spec PyProof.Rows
def XL (X:Cx)(cl:Nat→Addr)(E:XK)(e:Expr)(f:Rho→Rs (List D)):Prop :=
 ∃t:TE,PE X e t∧∀(H0 F0:Hp) (ρ:Rho) (σ:St) (H F:Hp) (Q:VK),Rl X.K cl H0 F0 ρ σ H F→OutA X.K cl E H0 F H (f ρ) (fun vs H1=>∀p,H1 p=none→Q (.ref p) (upd H1 p (.lst vs)))→t σ H Q
def fLs (f:Rho→Rs (List D)):Rho→Rs D:=fun ρ=>(f ρ).bind fun ds=>.ok (.lst ds)
section
variable {X:Cx}{cl:Nat→Addr}{E:XK}{e o:Expr}{es:List Expr}{fa fb:Rho→Rs D}{fs:Rho→Rs (List D)}{x:Str}{p pos:Pos}
theorem XL.xe (h:XL X cl E e fs):XE X cl E e (fLs fs):=by
 obtain⟨t,pt,rt⟩:=h
 refine XE'.out ⟨_,pt,fun H0 F0 ρ σ H F Q R o=>rt H0 F0 ρ σ H F _ R (OutA.fst o fun ds vs H1 F1 g q o1=>fun p hp=>?_)⟩
 have fh:=(R.grow g).fh
 exact o1 _ _ _ (Gr.new fh hp) (.lst (.inl (.inl zX)) (q.mono (Same.upd (fh.free hp))))
def lf' {α:Type}:Option α→Rs α
 | some d=>.ok d
 | none=>.no
def fL (g:List D→Option (List D))(fs:Rho→Rs (List D)):Rho→Rs (List D):=fun ρ=>(fs ρ).bind fun as=>lf' (g as)
def fL2 (g:D→D→Option (List D))(fa fb:Rho→Rs D):Rho→Rs (List D):=fun ρ=>(fa ρ).bind fun a=>(fb ρ).bind fun b=>lf' (g a b)
theorem OutA.lf {K:PySem.W.Frag}{H0 F H:Hp}{o:Option (List D)}{Q:List V→Hp→Prop}(h:OutA K cl E H0 F H (lf' o) Q):∃d,o=some d∧∀v H' F',Gr F H F' H'→Dts K cl F' v d→Q v H':=by
 cases o with
 | none=>exact h.elim
 | some d=>exact⟨d,rfl,h⟩
def szL (ds:List D):Option (List D):=if ds.length≤1000000 then some ds else none
theorem xl_lst (h:XA X cl E es fs):XL X cl E (.List es pos) (fL szL fs):=by
 obtain⟨t,pt,rt⟩:=h.ex
 refine⟨_,pe_lst pt,fun H0 F0 ρ σ H F Q R o=>rt H0 F0 ρ σ H F _ R (OutA.fstA o fun ds vs H1 F1 g q o1=>?_)⟩
 obtain⟨z,hz,k⟩:=o1.lf
 unfold szL at hz
 split at hz
 ·rename_i hl
  obtain rfl:=Option.some.inj hz
  exact⟨sz6 (q.length▸hl),fun p hp=>k vs H1 F1 (Gr.refl (R.grow g).fh) q p hp⟩
 ·cases hz
def catD:D→D→Option (List D)
 | .lst l,.lst m=>if l.length+m.length≤1000000 then some (l++m) else none
 | _,_=>none
theorem sorted_run {K:PySem.W.Frag}{F H:Hp}{a:Addr}{vs:List V}{ds z:List D}{Q:List V→Hp→Prop}(fh:Same F H)(dq:Dts K cl F vs ds)(hz:sortL ds=some z)(k:∀v H' F',Gr F H F' H'→Dts K cl F' v z→Q v H'):vs=vT (ds.map unS)∧(ds.map unS).length<64∧∀ms,ms.Perm (ds.map unS)→Srt ms→Q (vT ms) H:=by
 unfold sortL at hz
 split at hz
 ·rename_i h
  obtain rfl:=Option.some.inj hz
  obtain⟨e1,e2,e3⟩:=dq.texts h.1
  refine⟨e1,by rw[List.length_map];exact h.2,fun ms pm sm=>?_⟩
  obtain rfl:=My.sortF_eq sm pm
  exact k _ _ _ (Gr.refl fh) (dts_texts fun y hy=>e2 y (My.sortF_mem.mp hy))
 ·cases hz
theorem xl_sorted (hg:Gl X "sorted")(hm:X.mg "sorted" = none)(hv:bootBuiltins "sorted" = some (.builtin "sorted"))(h:XE X cl E e fa)(hs:starEach [e] X.env=(false,eval e X.env)::starEach [] X.env)(hpl:(backTo pos (starEach [] X.env)).any (·.1)=false:=by rfl):XL X cl E (.Call (.Name "sorted" p) [e] [] pos) (fL sortD (zj fa zE)):=by
 obtain⟨t,pt,rt⟩:=(zf h zm hs).ex
 have hc:CallR X (.builtin "sorted") (fun xs H Q=>(∃a ls,xs=[.ref a]∧SqL X.K H a (vT ls)∧ls.length<64∧∀p ms,H p=none→ms.Perm ls→Srt ms→Q (.ref p) (upd H p (.lst (vT ms))))∨(∃a ls,xs=[.ref a]∧SqT X.K H a (vT ls)∧ls.length<64∧∀p ms,H p=none→ms.Perm ls→Srt ms→Q (.ref p) (upd H p (.lst (vT ms))))):=fun pins s σ H xs us Q I r q=>by
  rcases q with q|q
  ·exact call_sortedS pins s σ H xs us Q I r q
  ·exact call_sortedT pins s σ H xs us Q I r q
 refine⟨_,pe_callB hc hg hm hv pt (by decide) (by decide) hs hpl,fun H0 F0 ρ σ H F Q R o=>rt H0 F0 ρ σ H F _ R (OutA.fstA o fun ds vs H1 F1 g q o1=>?_)⟩
 obtain⟨z,hz,k⟩:=o1.lf
 have fh:=(R.grow g).fh
 match ds,q,hz with
 | [.lst l],q,hz =>
  obtain⟨v,rfl,q1⟩:=q.one
  cases q1 with
  | lst sq dq =>
   obtain⟨e1,e2,e3⟩:=sorted_run (a:=0) fh dq hz k
   rw[e1] at sq
   exact .inl ⟨_,_,rfl,fh.seq sq,e2,fun p ms hp pm sm=>e3 ms pm sm p hp⟩
 | [.tup l],q,hz =>
  obtain⟨v,rfl,q1⟩:=q.one
  cases q1 with
  | tup sq dq =>
   obtain⟨e1,e2,e3⟩:=sorted_run (a:=0) fh dq hz k
   rw[e1] at sq
   exact .inr ⟨_,_,rfl,fh.seqT sq,e2,fun p ms hp pm sm=>e3 ms pm sm p hp⟩
theorem xs_setO {i:Nat}{pos':Pos}(hN:X.N.Nodup)(hi:X.N[i]? = some x)(hx:Loc X.env.scope x)(he:XL X cl E e fs)(hs:swapsWith e (some (.Name x pos')) pos.line X.env=pure false:=by rfl)(hf:X.fn x=true∨X.env.scope.names.lookup x=some .local:=by first|exact .inl rfl|exact .inr rfl|assumption) :
  XS X cl E (.Assign [.Name x pos'] e pos) (sSetO i fs):=by
 obtain⟨t,pt,rt⟩:=he
 refine XS'.out ⟨_,ps_set hN hi hx pt hs hf,fun H0 F0 ρ σ H F Dn R o=>rt H0 F0 ρ σ H F _ R ?_⟩
 unfold sSetO at o
 cases e:fs ρ with
 | ok d=>rw[e] at o;exact fun vs H' F' gg q p hp=>o _ _ F' ((R.grow gg).setO hp q) gg.ff
 | ex n=>rw[e] at o;exact o
 | no=>rw[e] at o;exact o
theorem xs_append {i:Nat}{o:Expr}{apos cpos:Pos}(ho:PE X o (tVar i))(ha:XE X cl E e fa)(m:Mth X o e "append" apos cpos)(hs:swapsWith (.Call (.Attribute o "append" apos) [e] [] cpos) none pos.line X.env=pure false:=by rfl):XS X cl E (.Expr (.Call (.Attribute o "append" apos) [e] [] cpos) pos) (sApp i fa):=by
 obtain⟨u,pu,ru⟩:=ha.ex
 refine XS'.out ⟨_,ps_expr (pe_bm PySem.F.plainAttrs_list PySem.F.slot_list_append PySem.F.type_list_append mt_append ho (yU pu pa_nil m.hs) m.base m.few m.line m.hs m.plain) hs,fun H0 F0 ρ σ H F Dn R oo=>?_⟩
 unfold sApp at oo
 cases hw:owL ρ i with
 | none=>rw[hw] at oo;exact oo.elim
 | some ds =>
  rw[hw] at oo
  have hd:=owL_some hw
  obtain⟨a,vs,h1,h2,h3,h4,h5⟩:=R.ow i ds hd
  refine⟨.ref a,h1,.inl ⟨rfl,vs,.inl (.inl h2)⟩,ru H0 F0 ρ σ H F _ R ?_⟩
  cases e:fa ρ with
  | ok d =>
   simp only[e] at oo
   split at oo
   ·rename_i hl
    intro v H1 F1 g q
    have R1:=R.grow g
    refine⟨a,vs,v,rfl,rfl,g.hh _ _ h2,?_,?_⟩
    ·rw[h5.length,sizeLine_eq];omega
    ·exact oo _ _ F1 (R1.put hd h1 ((h5.mono g.ff).append (.cons q .nil))) g.ff
   ·exact oo.elim
  | ex n=>simp only[e] at oo;exact oo
  | no=>simp only[e] at oo;exact oo.elim
def sPop (i j:Nat)(f:Rho→Rs D):Rho→Out:=fun ρ=>match owL ρ i with
 | some ds=>(match f ρ with | .ok (.int k)=>(if 0≤k∧k<1000000 then(match ds[k.toNat]? with|some d=>.nx ((ρ.set i (.ow (ds.eraseIdx k.toNat))).set j (.fz d))|none=>.no) else .no) | .ex n=>.ex n|_=>.no)
 | none=>.no
theorem Dts.erase {K:PySem.W.Frag}{F:Hp}:∀{vs:List V}{ds:List D} (k:Nat),Dts K cl F vs ds→Dts K cl F (vs.eraseIdx k) (ds.eraseIdx k)
 | _,_,_,.nil=>.nil
 | _,_,0,.cons _ r=>r
 | _,_,k+1,.cons q r=>.cons q (Dts.erase k r)
theorem xs_pop {i j:Nat}{o:Expr}{y:Str}{py apos cpos:Pos}(hN:X.N.Nodup)(hj:X.N[j]? = some y)(hy:Loc X.env.scope y)(ho:PE X o (tVar i))(ha:XE X cl E e fa)(m:Mth X o e "pop" apos cpos)(hs:swapsWith (.Call (.Attribute o "pop" apos) [e] [] cpos) (some (.Name y py)) pos.line X.env=pure false:=by rfl)(hf:X.fn y=true∨X.env.scope.names.lookup y=some .local:=by first|exact .inl rfl|exact .inr rfl|assumption) :
  XS X cl E (.Assign [.Name y py] (.Call (.Attribute o "pop" apos) [e] [] cpos) pos) (sPop i j fa):=by
 obtain⟨u,pu,ru⟩:=ha.ex
 refine XS'.out ⟨_,ps_set hN hj hy (pe_bm PySem.F.plainAttrs_list PySem.F.slot_list_pop PySem.F.type_list_pop mt_popAt ho (yU pu pa_nil m.hs) m.base m.few m.line m.hs m.plain) hs hf,fun H0 F0 ρ σ H F Dn R oo=>?_⟩
 unfold sPop at oo
 cases hw:owL ρ i with
 | none=>rw[hw] at oo;exact oo.elim
 | some ds =>
  rw[hw] at oo
  have hd:=owL_some hw
  obtain⟨a,vs,h1,h2,h3,h4,h5⟩:=R.ow i ds hd
  refine⟨.ref a,h1,.inl ⟨rfl,vs,.inl (.inl h2)⟩,ru H0 F0 ρ σ H F _ R ?_⟩
  cases e:fa ρ with
  | ok d =>
   simp only[e] at oo
   intro v H1 F1 g q
   cases q with
   | int k =>
    dsimp only at oo
    split at oo
    ·rename_i hk
     cases hg:ds[k.toNat]? with
     | none=>simp only[hg] at oo;exact oo.elim
     | some d =>
      simp only[hg] at oo
      have R1:=R.grow g
      have h5':=h5.mono g.ff
      obtain⟨w,hw1,hw2⟩:=h5'.get' hg
      have hlt:k.toNat<vs.length:=(List.getElem?_eq_some_iff.mp hw1).1
      refine⟨a,vs,k,k.toNat,w,rfl,rfl,g.hh _ _ h2,by omega,by omega,?_,hw1,?_⟩
      ·exact seqIndex_of hk.1 (by omega)
      ·exact oo _ _ F1 ((R1.put hd h1 (h5'.erase _)).set hw2) g.ff
    ·exact oo.elim
   | _=>exact oo.elim
  | ex n=>simp only[e] at oo;exact oo
  | no=>simp only[e] at oo;exact oo.elim
end
end L2
namespace L2
open PySem PySem.Spec PyProof.Rows
section
variable {X:Cx}{cl:Nat→Addr}{E:XK}{e o a b c:Expr}{es:List Expr}{fa fb fc:Rho→Rs D}{fs:Rho→Rs (List D)}{x y:Str}{p pos:Pos}
def fCh (g g':D→D→Option D)(fa fb fc:Rho→Rs D):Rho→Rs D:=fun ρ=>(fa ρ).bind fun a=>(fb ρ).bind fun b=>(lf (g a b)).bind fun z=>(tru z).bind fun k=>if k=true then(fc ρ).bind fun c=>lf (g' b c) else .ok (.bl false)
theorem chain_run {H0 F0 H F:Hp}{ρ:Rho}{σ:St}{r r':R2}{g g':D→D→Option D}{ta tb tc:TE}{Q:VK}(hg:Op2 X.K cl r g)(hg':Op2 X.K cl r' g')(R:Rl X.K cl H0 F0 ρ σ H F)
  (ra:∀(H0 F0:Hp) (ρ:Rho) (σ:St) (H F:Hp) (Q:VK),Rl X.K cl H0 F0 ρ σ H F→OutE X.K cl E H0 F H (fa ρ) Q→ta σ H Q) (rb:∀(H0 F0:Hp) (ρ:Rho) (σ:St) (H F:Hp) (Q:VK),Rl X.K cl H0 F0 ρ σ H F→OutE X.K cl E H0 F H (fb ρ) Q→tb σ H Q) (rc:∀(H0 F0:Hp) (ρ:Rho) (σ:St) (H F:Hp) (Q:VK),Rl X.K cl H0 F0 ρ σ H F→OutE X.K cl E H0 F H (fc ρ) Q→tc σ H Q)
  (o:OutE X.K cl E H0 F H (fCh g g' fa fb fc ρ) Q):tChain r r' ta tb tc σ H Q:=by
 refine ra H0 F0 ρ σ H F _ R (OutE.fst o fun d v H1 F1 g1 q o1=>?_)
 refine rb H0 F0 ρ σ H1 F1 _ (R.grow g1) (OutE.fst o1 fun d2 v2 H2 F2 g2 q2 o2=>?_)
 have R2:=(R.grow g1).grow g2
 cases hz:g d d2 with
 | none=>rw[hz] at o2;exact o2.elim
 | some z =>
  rw[hz] at o2
  refine hg F2 H2 v v2 d d2 z _ R2.fh (q.mono g2.ff) q2 hz fun w H3 F3 g3 q3=>?_
  obtain⟨k,rfl,o3⟩:=OutE.tru (F1:=F3) (H1:=H3) q3 (OutE.grow (r:=(tru z).bind _) o2 g3)
  refine⟨k,rfl,?_⟩
  have R3:=R2.grow g3
  cases k with
  | false=>exact o3.okI R3.fh (.bl _)
  | true =>
   refine rc H0 F0 ρ σ H3 F3 _ R3 (OutE.fst o3 fun d4 v4 H4 F4 g4 q4 o4=>?_)
   obtain⟨z2,hz2,k2⟩:=o4.lf
   exact hg' F4 H4 v2 v4 d2 d4 z2 _ (R3.grow g4).fh (q2.mono (g3.trans g4).ff) q4 hz2 k2
theorem xe_chain {op op':CmpOp}{r r':R2}{g g':D→D→Option D}(ho:OpR X (compareOp op) r)(ho':OpR X (compareOp op') r')(hg:Op2 X.K cl r g)(hg':Op2 X.K cl r' g')(ha:XE X cl E a fa)(hb:XE X cl E b fb)(hc:XE X cl E c fc)(hm:lastMarks [op,op'] [b,c]=false:=by with_unfolding_all rfl):XE X cl E (.Compare a [op,op'] [b,c] pos) (fCh g g' fa fb fc):=by
 obtain⟨t,pt,rt⟩:=ha.ex
 obtain⟨u,pu,ru⟩:=hb.ex
 obtain⟨w,pw,rw'⟩:=hc.ex
 exact XE'.out ⟨_,pe_chain ho ho' pt pu pw hm,fun H0 F0 ρ σ H F Q R o=>chain_run hg hg' R rt ru rw' o⟩
theorem xt_chain {op op':CmpOp}{r r':R2}{g g':D→D→Option D}(ho:OpR X (compareOp op) r)(ho':OpR X (compareOp op') r')(hg:Op2 X.K cl r g)(hg':Op2 X.K cl r' g')(ha:XE X cl E a fa)(hb:XE X cl E b fb)(hc:XE X cl E c fc)(hm:lastMarks [op,op'] [b,c]=false:=by with_unfolding_all rfl):XT X cl E (.Compare a [op,op'] [b,c] pos) (bT (fCh g g' fa fb fc)):=by
 obtain⟨t,pt,rt⟩:=ha.ex
 obtain⟨u,pu,ru⟩:=hb.ex
 obtain⟨w,pw,rw'⟩:=hc.ex
 exact XT'.out ⟨_,pt_chain ho ho' pt pu pw hm,fun H0 F0 ρ σ H F Q R o=>chain_run hg hg' R rt ru rw' (OutB.bT R o)⟩
theorem Inv.drawn {pins:List (Addr×Obj)}{σ:St}{H:Hp}{s:Shared}(I:Inv X pins σ H s)(d:Drawn):Inv X pins σ H {s with drawn:=d}:=⟨I.ok,I.os,I.bare,I.base,I.loc,I.cell,I.free,I.freeC,I.pin,I.hok,I.len⟩
end
end L2
namespace L2
open PySem PySem.Spec PyProof.Rows
def fL1 (g:D→Option (List D))(fa:Rho→Rs D):Rho→Rs (List D):=fun ρ=>(fa ρ).bind fun a=>lf' (g a)
section
variable {X:Cx}{cl:Nat→Addr}{E:XK}{e o a b c:Expr}{es:List Expr}{fa fb fc:Rho→Rs D}{fs:Rho→Rs (List D)}{x y:Str}{p pos:Pos}
def sNewD (i:Nat):Rho→Out:=fun ρ=>.nx (ρ.set i (.od []))
def odL (ρ:Rho)(i:Nat):Option (List (List Nat×D)):=match ρ[i]? with|some (.od ds)=>some ds|_=>none
def putD (kvs:List (List Nat×D))(k:List Nat)(v:D):List (List Nat×D):=if (kvs.any fun kv=>decide (kv.1=k))=true then kvs.map (fun kv=>if kv.1=k then(kv.1,v) else kv) else kvs++[(k,v)]
theorem Dks.any {K:PySem.W.Frag}{F:Hp}{k:List Nat}:∀{vs:List (Key×V)}{ds:List (List Nat×D)},Dks K cl F vs ds→(vs.any fun kv=>decide (kv.1=Sum.inr (T k)))=(ds.any fun kv=>decide (kv.1=k))
 | _,_,.nil=>rfl
 | _,_,.cons (l:=l) ok q r=>by
  rw[List.any_cons,List.any_cons,Dks.any r]
  congr 1
  by_cases h:l=k
  ·subst h;simp
  ·rw[decide_eq_false h,decide_eq_false]
   intro z;injection z with z;exact h (T_inj z)
theorem Dks.mapPut {K:PySem.W.Frag}{F:Hp}{k:List Nat}{v:V}{d:D}(hv:Dt K cl F v d):∀{vs:List (Key×V)}{ds:List (List Nat×D)},Dks K cl F vs ds→Dks K cl F (vs.map fun kv=>if kv.1=Sum.inr (T k) then(kv.1,v) else kv) (ds.map fun kv=>if kv.1=k then(kv.1,d) else kv)
 | _,_,.nil=>.nil
 | _,_,.cons (l:=l) ok q r=>by
  rw[List.map_cons,List.map_cons]
  by_cases h:l=k
  ·subst h;rw[if_pos rfl,if_pos rfl];exact .cons ok hv (Dks.mapPut hv r)
  ·have h':¬((Sum.inr (T l):Key)=Sum.inr (T k)):=fun z=>by injection z with z;exact h (T_inj z)
   rw[if_neg h,if_neg h'];exact .cons ok q (Dks.mapPut hv r)
theorem Dks.snoc {K:PySem.W.Frag}{F:Hp}{k:List Nat}{v:V}{d:D}(hk:TxtOk (T k))(hv:Dt K cl F v d):∀{vs:List (Key×V)}{ds:List (List Nat×D)},Dks K cl F vs ds→Dks K cl F (vs++[(Sum.inr (T k),v)]) (ds++[(k,d)])
 | _,_,.nil=>.cons hk hv .nil
 | _,_,.cons ok q r=>.cons ok q (Dks.snoc hk hv r)
theorem Dks.put {K:PySem.W.Frag}{F:Hp}{k:List Nat}{v:V}{d:D}{vs:List (Key×V)}{ds:List (List Nat×D)}(h:Dks K cl F vs ds)(hk:TxtOk (T k))(hv:Dt K cl F v d):Dks K cl F (putK vs (Sum.inr (T k)) v) (putD ds k d):=by
 unfold putK putD
 rw[h.any]
 split
 ·exact h.mapPut hv
 ·exact h.snoc hk hv
theorem Dks.length {K:PySem.W.Frag}{F:Hp}:∀{vs:List (Key×V)}{ds:List (List Nat×D)},Dks K cl F vs ds→vs.length=ds.length
 | _,_,.nil=>rfl
 | _,_,.cons _ _ r=>by simp[r.length]
theorem Dks.keys {K:PySem.W.Frag}{F:Hp}:∀{vs:List (Key×V)}{ds:List (List Nat×D)},Dks K cl F vs ds→vs.map (·.1)=(ds.map (·.1)).map fun l=>(Sum.inr (T l):Key)
 | _,_,.nil=>rfl
 | _,_,.cons _ _ r=>by simp[r.keys]
def sPut (i:Nat)(fk fv:Rho→Rs D):Rho→Out:=fun ρ=>match odL ρ i with
 | some ds=>(match fv ρ with
  | .ok v=>(match fk ρ with | .ok (.str k)=>if ds.length<1000000 then .nx (ρ.set i (.od (putD ds k v))) else .no | .ex n=>.ex n|_=>.no)
  | .ex n=>.ex n
  | .no=>.no)
 | none=>.no
def fSD (i:Nat):Rho→Rs (List D):=fun ρ=>match odL ρ i with
 | some ds=>if ds.length<64 then .ok ((My.sortF (ds.map (·.1))).map .str) else .no
 | none=>.no
end
end L2
namespace L2
open PySem PySem.Spec PyProof.Rows
def sRs (n:Nat)(fs:Rho→Rs (List D)):Rho→Out:=fun ρ=>match fs ρ with | .ok ds=>if ds.length≤3 then .ex n else .no | .ex m=>.ex m | .no=>.no
section
variable {P:Program}{w:World}{K:PySem.W.Frag}{mg:Str→Option Value}{base:Heap}{N:List Str}{qual:Str}{scope:Scope}{f:Addr}{cd:Value}{A:Around}{outer:List Env}{s₁:Shared}{H₁:Hp}{E:XK}{cl:Nat→Addr}
theorem xs_raise {x:Str}{e₀:Expr}{np cpos pos:Pos}{fs:Rho→Rs (List D)}{n:Nat}(O:Own K mg x)(hO:O.C=cl n)(hg:Gl (cxOf (CX1 P w) P w K mg base N qual scope f cd A outer s₁ H₁ E) x)(ha:XA (cxOf (CX1 P w) P w K mg base N qual scope f cd A outer s₁ H₁ E) cl E [e₀] fs)
  (he:starEach [e₀] (cxOf (CX1 P w) P w K mg base N qual scope f cd A outer s₁ H₁ E).env=(false,eval e₀ (cxOf (CX1 P w) P w K mg base N qual scope f cd A outer s₁ H₁ E).env)::starEach [] (cxOf (CX1 P w) P w K mg base N qual scope f cd A outer s₁ H₁ E).env) (hd:(x == ("__debug__" : Str))=false:=by decide) :
  XS (cxOf (CX1 P w) P w K mg base N qual scope f cd A outer s₁ H₁ E) cl E (.Raise (some (.Call (.Name x np) [e₀] [] cpos)) none pos) (sRs n fs):=by
 obtain⟨t,pt,rt⟩:=ha.ex
 refine XS'.out ⟨_,ps_raise O hg pt he rfl hd,fun H0 F0 ρ σ H F Dn R o=>rt H0 F0 ρ σ H F _ R ?_⟩
 unfold sRs at o
 cases e:fs ρ with
 | ok ds =>
  rw[e] at o
  intro vs H' F' g q
  dsimp only at o
  split at o
  ·rename_i hl
   refine⟨q.length▸hl,?_⟩
   rw[hO]
   exact o H' (R.gr.hh.trans g.hh)
  ·exact o.elim
 | ex n=>rw[e] at o;exact o
 | no=>rw[e] at o;exact o
end
def yj (m:Nat)(g:Rho→Out)(ds:List D):Rs D:=match g (ds.map .fz++List.replicate (m - ds.length) .no) with | .nx _=>.ok .non | .rt d=>.ok d | .ex n=>.ex n|_=>.no
theorem Rl.start {K:PySem.W.Frag}{cl:Nat→Addr}{H F:Hp}{N:List Str}{vs:List V}{ds:List D}(s:Same F H)(q:Dts K cl F vs ds):Rl K cl H F (ds.map .fz++List.replicate (N.length - ds.length) .no) (L2.start N vs) H F:=by
 have shape:∀(i:Nat) (s:Sl),(ds.map Sl.fz++List.replicate (N.length - ds.length) Sl.no)[i]? = some s→(∃d,s=.fz d∧ds[i]? = some d)∨s=.no:=fun i s e=>by
  rcases Nat.lt_or_ge i ds.length with h|h
  ·rw[List.getElem?_append_left (by simpa using h),List.getElem?_map,List.getElem?_eq_getElem h] at e
   exact .inl ⟨ds[i],(Option.some.inj e).symm,List.getElem?_eq_getElem h⟩
  ·rw[List.getElem?_append_right (by simpa using h),List.getElem?_replicate] at e
   split at e
   ·exact .inr (Option.some.inj e).symm
   ·cases e
 refine⟨Gr.refl s,by unfold L2.start;simp[q.length],fun i d e=>?_,fun i d e o=>?_,fun i j s t a z1 z2 o1 o2 e1 e2=>?_⟩
 ·rcases shape i _ e with⟨d',e1,e2⟩|e1
  ·injection e1 with e1;subst e1
   obtain⟨v,h1,h2⟩:=q.get' e2
   refine⟨v,?_,h2⟩
   unfold L2.start
   have hi:=(List.getElem?_eq_some_iff.mp h1).1
   rw[List.getElem?_append_left (by simpa using hi),List.getElem?_map,h1];rfl
  ·cases e1
 ·rcases shape i _ e with⟨d',rfl,_⟩|rfl <;>cases o
 ·rcases shape i _ z1 with⟨d',rfl,_⟩|rfl <;>cases o1
theorem fnD {P:Program}{w:World}{K:PySem.W.Frag}{mg:Str→Option Value}{base:Heap}{cl:Nat→Addr}{x qual:Str}{st:Stmt}{f:Addr}{fd:FuncData}{N ps:List Str}{k m n:Nat}{g:Rho→Out}(Fu:Fun K x qual st f fd)(S:FnScope N ps (zu st))(hm:N.length=m)(hn:ps.length=n)
  (hb:∀(cdv:Value) (A:Around) (outer:List Env) (s:Shared) (H:Hp) (E:XK),Room k (A.deeper (envOfC qual (zu st) s.heap.objs.size f cdv))→XSs (cxOf (CX1 P w) P w K mg base N qual (zu st) f cdv A outer s H E) cl E (defBody st) g):FnOk P w K mg base (CX1 P w) (k+1) f fd ps (spD K cl (yj m g) n):=by
 subst hm hn
 refine Fu.okX S (fun vs H Q E h=>h.choose_spec.choose_spec.2.2.1) fun cdv A outer s H vs Q E hr h=>?_
 obtain⟨F,ds,sm,dq,hl,o⟩:=h
 refine⟨_,hb cdv A outer s H E hr,H,F,_,F,Rl.start (N:=N) sm dq,?_⟩
 unfold yj at o
 cases e:g (ds.map .fz++List.replicate (N.length - ds.length) .no) with
 | nx ρ=>rw[e] at o;exact fun σ H' F' R _=>o .non H' F' R.gr .non
 | rt d=>rw[e] at o;exact fun v H' F' gg q=>o v H' F' gg q
 | bk ρ=>rw[e] at o;exact o.elim
 | ct ρ=>rw[e] at o;exact o.elim
 | ex n=>rw[e] at o;exact o
 | no=>rw[e] at o;exact o
def forZ (i j:Nat)(g:Rho→Out):List D→List D→Rho→Out
 | d::ds,e::es,ρ=>match g ((ρ.set i (.fz d)).set j (.fz e)) with | .nx ρ'=>forZ i j g ds es ρ' | .ct ρ'=>forZ i j g ds es ρ' | .bk ρ'=>.nx ρ'|o=>o
 | _,_,ρ=>.nx ρ
def sForZ (i j:Nat)(fa fb:Rho→Rs D)(g:Rho→Out):Rho→Out:=fun ρ=>match (fa ρ),(fb ρ) with
 | .ok (.tup ds),.ok (.tup es)=>forZ i j g ds es ρ
 | _,_=>.no
section
variable {X:Cx}{cl:Nat→Addr}{E:XK}{a b:Expr}{fa fb:Rho→Rs D}{g:Rho→Out}{p pos zpos tp px py:Pos}{x y:Str}{k:Nat}{body:List Stmt}
theorem sForZ_inv {K:PySem.W.Frag}{H0 F0 F:Hp}{i j:Nat}{ρ:Rho}{Dn:Ends}(o:OutS K cl E H0 F0 F (sForZ i j fa fb g ρ) Dn):∃ds es,fa ρ=.ok (.tup ds)∧fb ρ=.ok (.tup es)∧OutS K cl E H0 F0 F (forZ i j g ds es ρ) Dn:=by
 unfold sForZ at o
 split at o
 ·rename_i ds es e1 e2;exact⟨ds,es,e1,e2,o⟩
 ·exact o.elim
theorem xs_forZ {i j:Nat}(hp:PassesOwn (model X.prog X.w) X.A X.env X.xe)(hc:X.calm=true)(hz:Gl X "zip")(hm:X.mg "zip" = none)(ha:XE X cl E a fa)(hb:XE X cl E b fb)(hg:PG X (.Tuple [.Name x px,.Name y py] k tp) (gTup X.K 2 (gCons (gName i) (gCons (gName j) gNil))))(hbd:XSs X cl E body g)(hs:starEach [a,b] X.env=[(false,eval a X.env),(false,eval b X.env)])(hs2:starEach [b] X.env=[(false,eval b X.env)]):XS X cl E (.For (.Tuple [.Name x px,.Name y py] k tp) (.Call (.Name "zip" p) [a,b] [] zpos) body [] pos) (sForZ i j fa fb g):=by
 obtain⟨t,pt,rt⟩:=ha.ex
 obtain⟨u,pu,ru⟩:=hb.ex
 obtain⟨w,pw,rw'⟩:=hbd.ex
 refine XS'.out ⟨_,ps_for hp hc (pi_ziptt hz hm pt pu hs hs2) hg pw,fun H0 F0 ρ σ H F Dn R o=>rt H0 F0 ρ σ H F _ R ?_⟩
 obtain⟨ds,es,e1,e2,o'⟩:=sForZ_inv o
 rw[e1]
 intro v1 H1 F1 g1 q1
 have R1:=R.grow g1
 refine ru H0 F0 ρ σ H1 F1 _ R1 ?_
 rw[e2]
 intro v2 H2 F2 g2 q2
 have R2:=R1.grow g2
 cases q1 with
 | tup sq1 dq1 =>
  cases q2 with
  | tup sq2 dq2 =>
   have sq1':=g2.ff.seqT sq1
   have dq1':=dq1.mono g2.ff
   refine⟨_,_,_,_,rfl,R2.fh.seqT sq1',R2.fh.seqT sq2,?_⟩
   refine for_zip (fun m σ' H'=>∃ρ' F',Rl X.K cl H0 F0 ρ' σ' H' F'∧Same F2 F'∧OutS X.K cl E H0 F0 F' (forZ i j g (ds.drop m) (es.drop m) ρ') Dn) ⟨ρ,F2,R2,Same.refl _,o'.grow (g1.ff.trans g2.ff)⟩ (fun m σ' H' ⟨ρ',F',R',s',_⟩=>⟨(s'.trans R'.fh).seqT sq1',(s'.trans R'.fh).seqT sq2⟩) ?_ ?_
   ·rintro m z1 z2 pp σ' H' hx hy hpp ⟨ρ',F',R',s',o3⟩
    obtain⟨c1,hd1,qd1⟩:=dq1'.get hx
    obtain⟨c2,hd2,qd2⟩:=dq2.get hy
    have r1:ds.drop m=c1::ds.drop (m+1):=by
     obtain⟨hk,e3⟩:=List.getElem?_eq_some_iff.mp hd1
     rw[List.drop_eq_getElem_cons hk,e3]
    have r2:es.drop m=c2::es.drop (m+1):=by
     obtain⟨hk,e3⟩:=List.getElem?_eq_some_iff.mp hd2
     rw[List.drop_eq_getElem_cons hk,e3]
    rw[r1,r2] at o3
    unfold forZ at o3
    have R4:=R'.grow (Gr.newO (o:=.tup [z1,z2]) R'.fh hpp)
    refine⟨pp,[z1,z2],rfl,.inl (.inl zX),rfl,z1,_,rfl,z2,_,rfl,rfl,rw' H0 F0 _ _ _ F' _ ((R4.set (qd1.mono s')).set (qd2.mono s')) ?_⟩
    cases e4:g ((ρ'.set i (.fz c1)).set j (.fz c2)) with
    | nx ρ2=>simp only[e4] at o3;exact fun σ2 H2 F2 R2 s2=>⟨ρ2,F2,R2,s'.trans s2,o3.grow s2⟩
    | ct ρ2=>simp only[e4] at o3;exact fun σ2 H2 F2 R2 s2=>⟨ρ2,F2,R2,s'.trans s2,o3.grow s2⟩
    | bk ρ2=>simp only[e4] at o3;exact o3
    | rt d=>simp only[e4] at o3;exact o3
    | ex n=>simp only[e4] at o3;exact o3
    | no=>simp only[e4] at o3;exact o3
   ·rintro σ' H' ⟨ρ',F',R',s',o3⟩
    rw[dq1'.length,dq2.length] at o3
    have e5:forZ i j g (ds.drop (min ds.length es.length)) (es.drop (min ds.length es.length)) ρ'=.nx ρ':=by
     rcases Nat.le_total ds.length es.length with h|h
     ·rw[Nat.min_eq_left h,List.drop_of_length_le (Nat.le_refl ds.length)];unfold forZ;rfl
     ·rw[Nat.min_eq_right h,List.drop_of_length_le (Nat.le_refl es.length)]
      cases ds.drop es.length <;>(unfold forZ;rfl)
    rw[e5] at o3
    exact o3 σ' H' F' R' (Same.refl _)
def compZ (ft:Rho→Rs Bool)(fe:Rho→Rs D)(ρ0:Rho):List D→List D→Rs (List D)
 | d::ds,c::cs=>match ft ((ρ0.set 0 (.fz d)).set 1 (.fz c)) with
  | .ok true=>(match fe ((ρ0.set 0 (.fz d)).set 1 (.fz c)) with | .ok e=>(compZ ft fe ρ0 ds cs).bind fun es=>.ok (e::es)|_=>.no)
  | .ok false=>compZ ft fe ρ0 ds cs
  | _=>.no
 | _,_=>.ok []
def fCz (fa fb:Rho→Rs D)(ft:Rho→Rs Bool)(fe:Rho→Rs D)(caps:List Nat):Rho→Rs (List D):=fun ρ=>match fa ρ,fb ρ with
 | .ok (.tup ds),.ok (.tup cs)=>(match compZ ft fe (capR 2 caps ρ) ds cs with | .ok es=>if ds.length≤1000000 then .ok es else .no|_=>.no)
 | _,_=>.no
variable {scope:Scope}{caps:List Nat}{elt:Expr}{ifs:List Expr}{ft:Rho→Rs Bool}{fe:Rho→Rs D}
structure CompZ (X:Cx)(cl:Nat→Addr)(scope:Scope)(x y:Str)(caps:List Nat)(tg:Expr)(ifs:List Expr)(elt:Expr)(ft:Rho→Rs Bool)(fe:Rho→Rs D):Prop where
 tgt:∀pins C ex s H,PG (cxC X pins scope [x,y] caps C ex s H) tg (gTup X.K 2 (gCons (gName 0) (gCons (gName 1) gNil)))
 tst:∀pins C ex s H,XTs (cxC X pins scope [x,y] caps C ex s H) cl E0 ifs ft
 elm:∀pins C ex s H,XE (cxC X pins scope [x,y] caps C ex s H) cl E0 elt fe
theorem fCz_inv {K:PySem.W.Frag}{H0 F H:Hp}{ρ:Rho}{Q:List V→Hp→Prop}(o:OutA K cl E H0 F H (fCz fa fb ft fe caps ρ) Q):∃ds cs es,fa ρ=.ok (.tup ds)∧fb ρ=.ok (.tup cs)∧compZ ft fe (capR 2 caps ρ) ds cs=.ok es∧ds.length≤1000000∧OutA K cl E H0 F H (.ok es) Q:=by
 unfold fCz at o
 split at o
 ·rename_i ds cs e1 e2
  split at o
  ·rename_i es e3
   split at o
   ·rename_i hl;exact⟨ds,cs,es,e1,e2,e3,hl,o⟩
   ·exact o.elim
  ·exact o.elim
 ·exact o.elim
theorem xl_compZ (ok:CompOk X scope caps)(hc:X.calm=true)(hz:Gl X "zip")(hm:X.mg "zip" = none)(ha:XE X cl E a fa)(hb:XE X cl E b fb)(CI:CompZ X cl scope x y caps (.Tuple [.Name x px,.Name y py] k tp) ifs elt ft fe)(hs:starEach [a,b] X.env=[(false,eval a X.env),(false,eval b X.env)])(hs2:starEach [b] X.env=[(false,eval b X.env)]) :
  XL X cl E (.ListComp elt [⟨.Tuple [.Name x px,.Name y py] k tp,.Call (.Name "zip" p) [a,b] [] zpos,ifs,0⟩] scope pos) (fCz fa fb ft fe caps):=by
 obtain⟨t,pt,rt⟩:=ha.ex
 obtain⟨u,pu,ru⟩:=hb.ex
 refine⟨_,pe_comp ok hc (pi_ziptt hz hm pt pu hs hs2) (g:=gTup X.K 2 (gCons (gName 0) (gCons (gName 1) gNil))) (tt:=tDB X.K cl E0 ft) (te:=tDE X.K cl E0 fe) ⟨CI.tgt,CI.tst,CI.elm⟩,fun H0 F0 ρ σ H F Q R o=>rt H0 F0 ρ σ H F _ R ?_⟩
 obtain⟨ds,cs,es,e1,e2,hcz,hl,o⟩:=fCz_inv o
 rw[e1]
 intro v1 H1 F1 g1 q1
 have R1:=R.grow g1
 refine ru H0 F0 ρ σ H1 F1 _ R1 ?_
 rw[e2]
 intro v2 H2 F2 g2 q2
 have R2:=R1.grow g2
 cases q1 with
 | tup sq1 dq1 =>
  cases q2 with
  | tup sq2 dq2 =>
   have sq1':=g2.ff.seqT sq1
   have dq1':=dq1.mono g2.ff
   refine⟨_,_,_,_,rfl,R2.fh.seqT sq1',R2.fh.seqT sq2,?_⟩
   refine turns_zip (sz6 (dq1'.length▸hl)) (fun m ys H'=>∃F' es1 es2,Gr F2 H2 F' H'∧Dts X.K cl F' ys es1∧ys.length≤m∧es=es1++es2∧compZ ft fe (capR 2 caps ρ) (ds.drop m) (cs.drop m)=.ok es2) ⟨F2,[],es,Gr.refl R2.fh,.nil,Nat.le_refl _,rfl,hcz⟩ (fun m ys H' ⟨F',_,_,gg,_,h1,_⟩=>⟨(gg.ff.trans gg.fh).seqT sq1',(gg.ff.trans gg.fh).seqT sq2,h1⟩) ?_ ?_
   ·rintro m z1 z2 pp ys H' hx hy hpp ⟨F',es1,es2,gg,qs,hly,rfl,hc'⟩
    obtain⟨c1,hd1,qd1⟩:=dq1'.get hx
    obtain⟨c2,hd2,qd2⟩:=dq2.get hy
    have r1:ds.drop m=c1::ds.drop (m+1):=by
     obtain⟨hk,e3⟩:=List.getElem?_eq_some_iff.mp hd1
     rw[List.drop_eq_getElem_cons hk,e3]
    have r2:cs.drop m=c2::cs.drop (m+1):=by
     obtain⟨hk,e3⟩:=List.getElem?_eq_some_iff.mp hd2
     rw[List.drop_eq_getElem_cons hk,e3]
    rw[r1,r2] at hc'
    unfold compZ at hc'
    have gz:Gr F' H' F' (upd H' pp (.tup [z1,z2])):=Gr.newO (gg.fh) hpp
    have Rz:=((R2.grow gg).grow gz).cap [x,y] caps
    have Rw:Rl X.K cl (upd H' pp (.tup [z1,z2])) F' (((capR 2 caps ρ).set 0 (.fz c1)).set 1 (.fz c2)) (((capS [x,y] caps σ).set 0 (some z1)).set 1 (some z2)) (upd H' pp (.tup [z1,z2])) F':=(Rz.set (qd1.mono gg.ff)).set (qd2.mono gg.ff)
    refine⟨pp,[z1,z2],rfl,.inl (.inl zX),rfl,z1,_,rfl,z2,_,rfl,rfl,?_,_,F',_,F',Rw,?_⟩
    ·exact(Kps.set rfl).trans (Kps.set rfl)
    ·cases e3:ft (((capR 2 caps ρ).set 0 (.fz c1)).set 1 (.fz c2)) with
     | ok bb =>
      rw[e3] at hc'
      intro H3 F3 g3
      cases bb with
      | true =>
       rw[if_pos rfl]
       cases e4:fe (((capR 2 caps ρ).set 0 (.fz c1)).set 1 (.fz c2)) with
       | ok ee =>
        simp only[e4] at hc'
        refine⟨_,F',_,F3,Rw.grow g3,?_⟩
        rw[e4]
        intro yy H4 F4 g4 qy
        cases e5:compZ ft fe (capR 2 caps ρ) (ds.drop (m+1)) (cs.drop (m+1)) with
        | ok es3 =>
         rw[e5] at hc'
         injection hc' with hc'
         exact⟨F4,es1++[ee],es3,gg.trans (gz.trans (g3.trans g4)),(qs.mono (g3.ff.trans g4.ff)).append (.cons qy .nil),by simp;exact hly,by rw[← hc',List.append_assoc];rfl,rfl⟩
        | ex n=>rw[e5] at hc';cases hc'
        | no=>rw[e5] at hc';cases hc'
       | ex n=>simp only[e4] at hc';cases hc'
       | no=>simp only[e4] at hc';cases hc'
      | false =>
       rw[if_neg Bool.false_ne_true]
       exact⟨F3,es1,es2,gg.trans (gz.trans g3),qs.mono g3.ff,Nat.le_succ_of_le hly,rfl,hc'⟩
     | ex n=>rw[e3] at hc';cases hc'
     | no=>rw[e3] at hc';cases hc'
   ·rintro ys H' ⟨F',es1,es2,gg,qs,hly,rfl,hc'⟩
    rw[dq1'.length,dq2.length] at hc'
    have e5:compZ ft fe (capR 2 caps ρ) (ds.drop (min ds.length cs.length)) (cs.drop (min ds.length cs.length))=.ok []:=by
     rcases Nat.le_total ds.length cs.length with h|h
     ·rw[Nat.min_eq_left h,List.drop_of_length_le (Nat.le_refl ds.length)];unfold compZ;rfl
     ·rw[Nat.min_eq_right h,List.drop_of_length_le (Nat.le_refl cs.length)]
      cases ds.drop cs.length <;>(unfold compZ;rfl)
    rw[e5] at hc'
    injection hc' with hc'
    rw[← hc',List.append_nil] at o
    exact o ys H' F' (g1.trans (g2.trans gg)) qs
end
end L2
namespace L2
open PySem PySem.Spec PyProof.Rows
def negI:D→Option D
 | .int i=>some (.int (-i))
 | _=>none
def fFl (i:Nat)(f:Rho→Rs D):Rho→Rs D:=fun ρ=>match owL ρ i with
 | some ds=>(match f (ρ.set i (.fz (.lst ds))) with | .ok d=>if d.fl=true then .ok d else .no | .ex n=>.ex n | .no=>.no)
 | none=>.no
section
variable {X:Cx}{cl:Nat→Addr}{E:XK}{e a b:Expr}{fa fb:Rho→Rs D}{pos:Pos}{st:Stmt}
theorem xe_neg (h:XE X cl E a fa):XE X cl E (.UnaryOp .USub a pos) (f1 negI fa):=by
 obtain⟨t,pt,rt⟩:=h.ex
 refine XE'.out ⟨_,pe_un un_neg pt,fun H0 F0 ρ σ H F Q R o=>rt H0 F0 ρ σ H F _ R (OutE.fst o fun d v H1 F1 g q o1=>?_)⟩
 obtain⟨z,hz,k⟩:=o1.lf
 cases q with
 | int i=>obtain rfl:=Option.some.inj hz;exact⟨i,rfl,k _ _ _ (Gr.refl (R.grow g).fh) (.int _)⟩
 | _=>cases hz
theorem Dt.flatAny {K:PySem.W.Frag}{F F':Hp}{v:V}{d:D}(q:Dt K cl F v d)(h:d.fl=true):Dt K cl F' v d:=by
 cases q with
 | non=>exact .non
 | bl b=>exact .bl b
 | int i=>exact .int i
 | str l ok=>exact .str l ok
 | _=>cases h
theorem xe_fl {i:Nat}(h:XE X cl E e fa):XE X cl E e (fFl i fa):=by
 obtain⟨t,pt,rt⟩:=h.ex
 refine XE'.out ⟨_,pt,fun H0 F0 ρ σ H F Q R o=>?_⟩
 unfold fFl at o
 cases hw:owL ρ i with
 | none=>rw[hw] at o;exact o.elim
 | some ds =>
  rw[hw] at o
  obtain⟨F1,s1,R1⟩:=R.ice (owL_some hw)
  refine rt H0 F0 _ σ H F1 _ R1 ?_
  cases e:fa (ρ.set i (.fz (.lst ds))) with
  | ok d =>
   simp only[e] at o
   split at o
   ·rename_i hf
    exact fun v H' F' g q=>o v H' F ⟨Same.refl _,g.hh,R.fh.trans g.hh,fun _ _ _ _ z=>z⟩ (q.flatAny hf)
   ·exact o.elim
  | ex n=>simp only[e] at o;exact o
  | no=>simp only[e] at o;exact o.elim
variable {scope:Scope}{x:Str}{caps:List Nat}{elt tg iter:Expr}{ifs:List Expr}{fi:Rho→Rs (List D)}{ft:Rho→Rs Bool}{fe:Rho→Rs D}
def rCatL (K:PySem.W.Frag):R2:=fun x y H Q=>∃l b xs zs,x=.ref l∧y=.ref b∧SqL K H l xs∧SqL K H b zs∧xs.length+zs.length≤sizeLine∧∀p,H p=none→Q (.ref p) (upd H p (.lst (xs++zs)))
theorem op_catL:OpR X (binaryOp .Add) (rCatL X.K):=by
 intro pins s σ H x y v u Q I rx ry h
 obtain⟨l,b,xs,zs,rfl,rfl,hH,hB,hz,q⟩:=h
 cases rx
 cases ry
 obtain⟨its,r,⟨o,n,e,hc,hdd,hd⟩,z⟩:=I.list hH
 obtain⟨its2,r2,⟨o2,n2,e2,hc2,hdd2,hd2⟩,z2⟩:=I.list hB
 obtain⟨cls,dd,data,sl⟩:=o
 obtain⟨cls2,dd2,data2,sl2⟩:=o2
 simp only at hc hd hc2 hd2
 subst hc hd hc2 hd2
 refine concat_meets ⟨_,e,rfl⟩ ⟨_,e2,rfl⟩ noFill_list_add seq_list_add PySem.F.slot_list_add PySem.F.entry_list_add (PySem.F.args_list_add_2 _ _) (list_addW l b its.toArray its2.toArray n n2 dd dd2 sl sl2 (by rw[List.size_toArray,List.size_toArray,← r.length,← r2.length];exact hz)) ⟨e,e2,?_⟩
 have ea:its.toArray++its2.toArray=(its++its2).toArray:=by simp
 rw[ea]
 exact⟨.ref _,_,I.lnew (t':=s.toks) (r.append r2) (by rw[List.length_append];omega),rfl,q _ I.fresh⟩
theorem catD_inv {a b:D}{z:List D}(e:catD a b=some z):∃l m,a=.lst l∧b=.lst m∧l.length+m.length≤1000000∧z=l++m:=by
 cases a with
 | lst l =>
  cases b with
  | lst m =>
   by_cases h:l.length+m.length≤1000000
   ·exact⟨l,m,rfl,rfl,h,(Option.some.inj ((if_pos h).symm.trans e)).symm⟩
   ·cases (if_neg h).symm.trans e
  | _=>cases e
 | _=>cases e
theorem xl_cat (ha:XE X cl E a fa)(hb:XE X cl E b fb):XL X cl E (.BinOp a .Add b pos) (fL2 catD fa fb):=by
 obtain⟨t,pt,rt⟩:=ha.ex
 obtain⟨u,pu,ru⟩:=hb.ex
 refine⟨_,pe_op op_catL pt pu,fun H0 F0 ρ σ H F Q R o=>rt H0 F0 ρ σ H F _ R (OutE.fstA o fun d v H1 F1 g q o1=>?_)⟩
 refine ru H0 F0 ρ σ H1 F1 _ (R.grow g) (OutE.fstA o1 fun d2 v2 H2 F2 g2 q2 o2=>?_)
 obtain⟨z,hz,k⟩:=o2.lf
 have fh:=(R.grow (g.trans g2)).fh
 have q':=q.mono g2.ff
 obtain⟨l,m,rfl,rfl,hl,rfl⟩:=catD_inv hz
 cases q' with
 | lst sq dq =>
  cases q2 with
  | lst sq2 dq2=>exact⟨_,_,_,_,rfl,rfl,fh.seq sq,fh.seq sq2,sz6 (by rw[dq.length,dq2.length];exact hl),fun p hp=>k _ _ _ (Gr.refl fh) (dq.append dq2) p hp⟩
end
end L2
namespace L2
open PySem PySem.Spec PyProof.Rows
def sp_law (K:PySem.W.Frag):Sp:=fun vs H Q _=>∃(a:Addr) (ns:List Int),vs=[.ref a]∧SqL K H a (ns.map V.int)∧ns.length≤63∧∀H',Q (.bl true) H'
theorem law_sp {K:PySem.W.Frag}{cl:Nat→Addr}{fn:List D→Rs D}(h:∀ns:List Int,ns.length≤63→fn [.lst (ns.map .int)]=.ok (.bl true)){vs:List V}{H:Hp}{Q:VK}{E E':XK}(hs:sp_law K vs H Q E):spD K cl fn 1 vs H Q E':=by
 obtain⟨a,ns,rfl,sq,hl,k⟩:=hs
 refine⟨H,[.lst (ns.map .int)],Same.refl _,.cons (.lst sq (dts_map fun i _=>.int i)) .nil,rfl,?_⟩
 rw[h ns hl]
 intro v H' F' g q
 cases q
 exact k H'
theorem law_ok {P:Program}{w:World}{K:PySem.W.Frag}{mg:Str→Option Value}{base:Heap}{cl:Nat→Addr}{fn:List D→Rs D}{k:Nat}{f:Addr}{fd:FuncData}{ps:List Str}(G:FnOk P w K mg base (CX1 P w) k f fd ps (spD K cl fn 1))(h:∀ns:List Int,ns.length≤63→fn [.lst (ns.map .int)]=.ok (.bl true)):FnOk P w K mg base CX0 k f fd ps (sp_law K) where
 len:=fun vs H Q E hs=>G.len vs H Q E (law_sp h hs)
 run:=fun A outer s H args us vs Q E hr e0 bt vl hs=>by
  refine codeAny_mono (G.run A outer s H args us vs Q E0 hr e0 bt vl (law_sp (E:=E) h hs)) fun r s' q=>?_
  cases r with
  | error e =>
   obtain⟨a,C,a0,H',B,_,_,_,_,_,_,_,_,_,_,_,z⟩:=(show Flown P w outer H s E0 e s' from q)
   exact z.elim
  | ok fl=>cases fl <;>exact q
theorem len1 {α:Type}{us:List α}(h:us.length=1):∃a,us=[a]:=List.length_eq_one_iff.mp h
theorem len2 {α:Type}{us:List α}(h:us.length=2):∃a b,us=[a,b]:=by
 cases us with
 | nil=>cases h
 | cons a t=>obtain⟨b,rfl⟩:=len1 (Nat.succ.inj h);exact⟨a,b,rfl⟩
theorem len3 {α:Type}{us:List α}(h:us.length=3):∃a b c,us=[a,b,c]:=by
 cases us with
 | nil=>cases h
 | cons a t=>obtain⟨b,c,rfl⟩:=len2 (Nat.succ.inj h);exact⟨a,b,c,rfl⟩
theorem len4 {α:Type}{us:List α}(h:us.length=4):∃a b c d,us=[a,b,c,d]:=by
 cases us with
 | nil=>cases h
 | cons a t=>obtain⟨b,c,d,rfl⟩:=len3 (Nat.succ.inj h);exact⟨a,b,c,d,rfl⟩
theorem len5 {α:Type}{us:List α}(h:us.length=5):∃a b c d e,us=[a,b,c,d,e]:=by
 cases us with
 | nil=>cases h
 | cons a t=>obtain⟨b,c,d,e,rfl⟩:=len4 (Nat.succ.inj h);exact⟨a,b,c,d,e,rfl⟩
end L2
namespace L2
open PySem PySem.Spec PyProof.Rows
def getK (ds:List (List Nat×D))(k:List Nat):Option D:=(ds.find? fun kv=>decide (kv.1=k)).map (·.2)
def getD:D→D→Option D
 | .dct ds,.str k=>getK ds k
 | _,_=>none
def hasD (neg:Bool):D→D→Option D
 | .str k,.dct ds=>some (.bl (if neg then !(getK ds k).isSome else(getK ds k).isSome))
 | _,_=>none
theorem Dks.val {K:PySem.W.Frag}{cl:Nat→Addr}{F:Hp}{k:List Nat}:∀{vs:List (Key×V)}{ds:List (List Nat×D)},Dks K cl F vs ds→match getK ds k with|some d=>∃v,valV vs (Sum.inr (T k):Key)=some v∧Dt K cl F v d|none=>valV vs (Sum.inr (T k):Key)=none
 | _,_,.nil=>rfl
 | _, _,.cons (l:=l) (v:=v) (d:=d) (vs:=vs) (ds:=ds) ok q r=>by
  have ih:=Dks.val (k:=k) r
  by_cases h:l=k
  ·subst h
   have e1:getK ((l,d)::ds) l=some d:=by simp[getK]
   rw[e1]
   exact⟨v,by simp[valV],q⟩
  ·have h':¬((Sum.inr (T l):Key)=Sum.inr (T k)):=fun z=>by injection z with z;exact h (T_inj z)
   have e1:getK ((l,d)::ds) k=getK ds k:=by simp[getK,h]
   have e2:valV ((Sum.inr (T l),v)::vs) (Sum.inr (T k):Key)=valV vs (Sum.inr (T k):Key):=by
    unfold valV
    rw[List.find?_cons_of_neg (by simpa using h')]
   rw[e1,e2]
   exact ih
section
variable {X:Cx}{cl:Nat→Addr}{E:XK}{e o a b:Expr}{es:List Expr}{fa fb:Rho→Rs D}{fs:Rho→Rs (List D)}{x:Str}{p pos:Pos}
theorem getD_inv {a b d:D}(e:getD a b=some d):∃ds k,a=.dct ds∧b=.str k∧getK ds k=some d:=by
 cases a with
 | dct ds =>
  cases b with
  | str k=>exact⟨ds,k,rfl,rfl,e⟩
  | _=>cases e
 | _=>cases e
theorem hasD_inv {neg:Bool}{a b d:D}(e:hasD neg a b=some d):∃k ds,a=.str k∧b=.dct ds∧d=.bl (if neg then !(getK ds k).isSome else(getK ds k).isSome):=by
 cases a with
 | str k =>
  cases b with
  | dct ds=>exact⟨k,ds,rfl,rfl,(Option.some.inj e).symm⟩
  | _=>cases e
 | _=>cases e
theorem Dt.dctE {K:PySem.W.Frag}{F:Hp}{v:V}{ds:List (List Nat×D)}(q:Dt K cl F v (.dct ds)):∃(a:Addr) (kvs:List (Key×V)),v=.ref a∧F a=some (.dK kvs)∧Dks K cl F kvs ds:=by
 cases q with|dct h k=>exact⟨_,_,rfl,h,k⟩
theorem xe_get (hu:X.A.units+1<cLine)(ha:XE X cl E a fa)(hb:XE X cl E b fb)(hs:NoSl b:=by intro _ _;rfl):XE X cl E (.Subscript a b pos) (f2 getD fa fb):=by
 obtain⟨t,pt,rt⟩:=ha.ex
 obtain⟨u,pu,ru⟩:=hb.ex
 refine XE'.out ⟨_,pe_dget hu pt pu hs,fun H0 F0 ρ σ H F Q R o=>rt H0 F0 ρ σ H F _ R (OutE.fst o fun d v H1 F1 g1 q o1=>?_)⟩
 refine ru H0 F0 ρ σ H1 F1 _ (R.grow g1) (OutE.fst o1 fun e w H2 F2 g2 q2 o2=>?_)
 obtain⟨z,hz,k⟩:=o2.lf
 have fh:=(R.grow (g1.trans g2)).fh
 have q':=q.mono g2.ff
 obtain⟨ds,key,rfl,rfl,hz'⟩:=getD_inv hz
 obtain⟨ad,kvs,rfl,hd,hk⟩:=q'.dctE
 obtain⟨rfl,ok⟩:=q2.strE
 have hv:=hk.val (k:=key)
 rw[hz'] at hv
 obtain⟨v,e1,e2⟩:=hv
 exact⟨ad,v,rfl,e1▸DGet.k (k:=Sum.inr (T key)) (fh _ _ hd),k _ _ _ (Gr.refl fh) e2⟩
theorem in_dct {K:PySem.W.Frag}{F H:Hp}{ad:Addr}{kvs:List (Key×V)}{ds:List (List Nat×D)}{key:List Nat}(hk:Dks K cl F kvs ds):(valV kvs (Sum.inr (T key):Key)).isSome=(getK ds key).isSome:=by
 have hv:=hk.val (k:=key)
 cases h:getK ds key with
 | none=>rw[h] at hv;dsimp only at hv;rw[hv];rfl
 | some d=>rw[h] at hv;obtain⟨v,e,_⟩:=hv;rw[e];rfl
theorem xt_notInDc (hu:X.A.units+1<cLine)(ha:XE X cl E a fa)(hb:XE X cl E b fb)(hm:behindInMarks .NotIn b=false:=by rfl):XT X cl E (.Compare a [.NotIn] [b] pos) (bT (f2 (hasD true) fa fb)):=by
 obtain⟨t,pt,rt⟩:=ha.ex
 obtain⟨u,pu,ru⟩:=hb.ex
 refine XT'.out ⟨_,pt_cmp (pc_dnotin hu pt pu) hm,fun H0 F0 ρ σ H F Q R o=>rt H0 F0 ρ σ H F _ R (OutE.fst (OutB.bT R o) fun d v H1 F1 g1 q o1=>?_)⟩
 refine ru H0 F0 ρ σ H1 F1 _ (R.grow g1) (OutE.fst o1 fun e w H2 F2 g2 q2 o2=>?_)
 obtain⟨z,hz,k⟩:=o2.lf
 have fh:=(R.grow (g1.trans g2)).fh
 obtain⟨key,ds,rfl,rfl,rfl⟩:=hasD_inv hz
 obtain⟨rfl,ok⟩:=q.strE
 obtain⟨ad,kvs,rfl,hd,hk⟩:=q2.dctE
 refine⟨ad,_,rfl,DGet.k (k:=Sum.inr (T key)) (fh _ _ hd),?_⟩
 have:=k _ _ _ (Gr.refl fh) (.bl _)
 rw[in_dct (H:=H2) (ad:=ad) hk]
 exact this
def zipL (ks:List (List Nat))(ds:List D):List (List Nat×D):=(List.range (min ks.length ds.length)).foldl (fun m j=>putD m (ks.getD j []) (ds.getD j .non)) []
def seqD:D→Option (List D)
 | .lst ds=>some ds
 | .tup ds=>some ds
 | _=>none
def zipDD (a b:D):Option D:=match seqD a,seqD b with
 | some ks,some ds=>if ks.all isS=true∧ks.length≤1000 then some (.dct (zipL (ks.map unS) ds)) else none
 | _,_=>none
theorem Dts.getDt {K:PySem.W.Frag}{F:Hp}:∀{vs:List V}{ds:List D} (_:Dts K cl F vs ds) (j:Nat),j<ds.length→Dt K cl F (vs.getD j .non) (ds.getD j .non):=by
 intro vs ds
 induction ds generalizing vs with
 | nil=>intro _ j h;cases h
 | cons d ds ih =>
  intro q j h
  cases q with
  | cons r t =>
   cases j with
   | zero=>exact r
   | succ j=>exact ih t j (Nat.lt_of_succ_lt_succ h)
theorem zip_dks {K:PySem.W.Frag}{F:Hp}{ks:List (List Nat)}{vs:List V}{ds:List D}(hk:∀x∈ks,TxtOk (T x))(q:Dts K cl F vs ds):Dks K cl F (zipT ks vs) (zipL ks ds):=by
 have key:∀(js:List Nat) (m:List (Key×V)) (n:List (List Nat×D)),(∀j∈js,j<ks.length∧j<ds.length)→Dks K cl F m n →
   Dks K cl F (js.foldl (fun m j=>putK m (Sum.inr (T (ks.getD j []))) (vs.getD j .non)) m) (js.foldl (fun m j=>putD m (ks.getD j []) (ds.getD j .non)) n):=by
  intro js
  induction js with
  | nil=>exact fun m n _ h=>h
  | cons j js ih =>
   intro m n h hm
   rw[List.foldl_cons,List.foldl_cons]
   obtain⟨h1,h2⟩:=h j (.head _)
   refine ih _ _ (fun i hi=>h i (.tail _ hi)) (hm.put (hk _ ?_) (q.getDt j h2))
   rw[List.getD_eq_getElem?_getD,List.getElem?_eq_getElem h1]
   exact List.getElem_mem h1
 unfold zipT zipL
 rw[q.length]
 exact key _ _ _ (fun j hj=>by have:=List.mem_range.mp hj;omega) .nil
theorem Dt.seq {K:PySem.W.Frag}{F:Hp}{v:V}{d:D}{ds:List D}(q:Dt K cl F v d)(e:seqD d=some ds):∃(a:Addr) (vs:List V),v=.ref a∧(SqL K F a vs∨SqT K F a vs)∧Dts K cl F vs ds:=by
 cases q with
 | lst sq dq=>obtain rfl:=Option.some.inj e;exact⟨_,_,rfl,.inl sq,dq⟩
 | tup sq dq=>obtain rfl:=Option.some.inj e;exact⟨_,_,rfl,.inr sq,dq⟩
 | _=>cases e
theorem xe_dictzip {p1 p2 pos1 pos2:Pos}(hc:X.calm=true)(hd:Gl X "dict")(md:X.mg "dict" = none)(hz:Gl X "zip")(mz:X.mg "zip" = none)(ha:XE X cl E a fa)(hb:XE X cl E b fb)
  (hs:starEach [a,b] X.env=[(false,eval a X.env),(false,eval b X.env)]:=by rfl) (hs2:starEach [b] X.env=[(false,eval b X.env)]:=by rfl)
  (hs3:starEach [.Call (.Name "zip" p2) [a,b] [] pos2] X.env=[(false,eval (.Call (.Name "zip" p2) [a,b] [] pos2) X.env)]:=by rfl) :
  XE X cl E (.Call (.Name "dict" p1) [.Call (.Name "zip" p2) [a,b] [] pos2] [] pos1) (f2 zipDD fa fb):=by
 obtain⟨t,pt,rt⟩:=ha.ex
 obtain⟨u,pu,ru⟩:=hb.ex
 refine XE'.out ⟨_,pe_dictzipS hc pt pu hd hz md mz hs hs2 hs3,fun H0 F0 ρ σ H F Q R o=>?_⟩
 unfold tZipS tCons
 refine rt H0 F0 ρ σ H F _ R (OutE.fst o fun d v H1 F1 g1 q o1=>?_)
 refine ru H0 F0 ρ σ H1 F1 _ (R.grow g1) (OutE.fst o1 fun e w H2 F2 g2 q2 o2=>?_)
 obtain⟨z,hz,k⟩:=o2.lf
 have fh:=(R.grow (g1.trans g2)).fh
 have q':=q.mono g2.ff
 unfold zipDD at hz
 split at hz
 ·rename_i ks ds ek ed
  split at hz
  ·rename_i h
   obtain rfl:=Option.some.inj hz
   obtain⟨A1,vs1,rfl,s1,d1⟩:=q'.seq ek
   obtain⟨A2,vs2,rfl,s2,d2⟩:=q2.seq ed
   obtain⟨e1,e2,e3⟩:=d1.texts h.1
   subst e1
   refine⟨ks.map unS,A1,A2,vs2,rfl,s1.imp fh.seq fh.seqT,s2.imp fh.seq fh.seqT,by rw[List.length_map];exact h.2,fun p hp=>k _ _ _ (Gr.new fh hp) ?_⟩
   exact .dct zX ((zip_dks e2 d2).mono (Same.upd (fh.free hp)))
  ·cases hz
 ·cases hz
def idxD:D→D→Option D
 | .lst ds,.str k=>if ds.all isS=true∧ds.length≤1000∧k∈ds.map unS then some (.int ((ds.map unS).idxOf k:Nat)) else none
 | .tup ds,.str k=>if ds.all isS=true∧ds.length≤1000∧k∈ds.map unS then some (.int ((ds.map unS).idxOf k:Nat)) else none
 | _,_=>none
def isLs:D→Bool
 | .lst _=>true
 | _=>false
def isTp:D→Bool
 | .tup _=>true
 | _=>false
theorem idx_facts {ls:List (List Nat)}{k:List Nat}(h:k∈ls):flatV (.str (T k))=true∧(vT ls).all flatV=true∧(vT ls)[ls.idxOf k]? = some (.str (T k))∧eqV (.str (T k)) (.str (T k))=true ∧
  ∀(m:Nat) (w:V),m<ls.idxOf k→(vT ls)[m]? = some w→eqV w (.str (T k))=false:=by
 have hl:=List.idxOf_lt_length_of_mem h
 have key:∀x,eqV (.str (T x)) (.str (T k))=(x == k):=fun x=>T_beq x k
 refine⟨rfl,?_,?_,?_,?_⟩
 ·unfold vT;simp[flatV]
 ·unfold vT
  rw[List.getElem?_map,List.getElem?_eq_getElem hl,List.getElem_idxOf hl];rfl
 ·rw[key];simp
 ·intro m w hm hw
  unfold vT at hw
  have hml:m<ls.length:=by omega
  rw[List.getElem?_map,List.getElem?_eq_getElem hml] at hw
  obtain rfl:=Option.some.inj hw
  have hne:ls[m]≠k:=by
   have:=List.not_of_lt_findIdx (p:=(· == k)) (xs:=ls) (i:=m) hm
   simpa using this
  show eqV (.str (T ls[m])) (.str (T k))=false
  rw[key];simp[hne]
def tBMT (K:PySem.W.Frag)(r:V→List V→Hp→VK→Prop)(to:TE)(t:TA):TE:=fun σ H Q=>to σ H fun x H1=>(∃(a:Addr) (xs:List V),x=.ref a∧SqT K H1 a xs)∧t σ H1 fun xs H2=>r x xs H2 Q
theorem pe_bmT {to:TE}{t:TA}{name:Str}{apos cpos:Pos}{id:String}{r:V→List V→Hp→VK→Prop}(pa:PlainAttrs "tuple")(slot:Slot "tuple" name id)(hty:typeOf (.builtin id)=pure (.type "method_descriptor"))(hm:MtR X id r)(ho:PE X o to)(ha:PA X (e::es) t)
  (hbase:attributeBase o name X.env (eval o X.env)=eval o X.env)
  (hfew:((backTo cpos (starEach (e::es) X.env)).all (fun x=>!x.1)&&(backToKw cpos (keywordEach [] X.env)).all (fun x=>x.1.isSome)
   && decide ((e::es).length+([]:List Keyword).length+(if ([]:List Keyword).isEmpty then 0 else 1)<30))=true)
  (hline:(apos.endLine == cpos.line)=true) (hs:starEach (e::es) X.env=(false,eval e X.env)::starEach es X.env) (hplain:(backTo cpos (starEach es X.env)).any (·.1)=false) :
  PE X (.Call (.Attribute o name apos) (e::es) [] cpos) (tBMT X.K r to t):=by
 intro pins s σ H Q I h
 refine wpAny_Call_method_late hbase hfew hline rfl (thn (ho pins s σ H _ I h) fun v s1 hq39=>?_)
 obtain⟨x,H1,I1,r1,ty,q1⟩:=hq39
 obtain⟨ad,xs,rfl,sq⟩:=ty
 cases r1
 obtain⟨ob,e1,c1,d1⟩:=I1.noDict sq
 refine⟨"tuple", id,pa,slot,hty,⟨ob,e1,c1⟩,fun a z=>by cases z;exact⟨ob,e1,d1⟩,?_⟩
 have hA:=ha cpos pins s1 σ H1 _ I1 q1
 rw[hs] at hA ⊢
 refine Calls.callWith_builtin (by show(false || (backTo cpos (starEach es X.env)).any (·.1))=false;rw[hplain] <;>rfl) (Calls.evalArgs_plain ?_)
 exact thn hA fun us s2 ⟨vs,H2,I2,r2,q2⟩=>hm pins s2 σ H2 (.ref ad) vs (.ref ad) us Q I2 rfl r2 q2
theorem xe_idxT {apos cpos:Pos}(ho:XE X cl E o fa)(ha:XE X cl E e fb)(m:Mth X o e "index" apos cpos):XE X cl E (.Call (.Attribute o "index" apos) [e] [] cpos) (fM isTp idxD fa fb):=by
 obtain⟨t,pt,rt⟩:=ho.ex
 obtain⟨u,pu,ru⟩:=ha.ex
 refine XE'.out ⟨_,pe_bmT PySem.F.plainAttrs_tuple PySem.F.slot_tuple_index PySem.F.type_tuple_index mt_indexT pt (yU pu pa_nil m.hs) m.base m.few m.line m.hs m.plain,fun H0 F0 ρ σ H F Q R o=>rt H0 F0 ρ σ H F _ R (OutE.fst o fun d v H1 F1 g1 q o1=>?_)⟩
 split at o1
 ·rename_i hd
  cases q with
  | tup sq dq =>
   rename_i ad xs ds
   refine⟨⟨ad,xs,rfl,(R.grow g1).fh.seqT sq⟩,ru H0 F0 ρ σ H1 F1 _ (R.grow g1) (OutE.fst o1 fun d2 v2 H2 F2 g2 q2 o2=>?_)⟩
   obtain⟨z,hz,k⟩:=o2.lf
   have fh:=(R.grow (g1.trans g2)).fh
   cases q2 with
   | str key ok2 =>
    dsimp only [idxD] at hz
    split at hz
    ·rename_i h
     obtain rfl:=Option.some.inj hz
     obtain⟨e1,e2,e3⟩:=dq.texts h.1
     subst e1
     obtain⟨a1,a2,a3,a4,a5⟩:=idx_facts h.2.2
     exact⟨ad,_,_,_,_,rfl,rfl,fh.seqT (g2.ff.seqT sq),a1,a2,a3,a4,a5,k _ _ _ (Gr.refl fh) (.int _)⟩
    ·cases hz
   | _=>cases hz
  | _=>cases hd
 ·exact o1.elim
theorem xe_idxL {apos cpos:Pos}(ho:XE X cl E o fa)(ha:XE X cl E e fb)(m:Mth X o e "index" apos cpos):XE X cl E (.Call (.Attribute o "index" apos) [e] [] cpos) (fM isLs idxD fa fb):=by
 obtain⟨t,pt,rt⟩:=ho.ex
 obtain⟨u,pu,ru⟩:=ha.ex
 refine XE'.out ⟨_,pe_bm PySem.F.plainAttrs_list PySem.F.slot_list_index PySem.F.type_list_index mt_indexL pt (yU pu pa_nil m.hs) m.base m.few m.line m.hs m.plain,fun H0 F0 ρ σ H F Q R o=>rt H0 F0 ρ σ H F _ R (OutE.fst o fun d v H1 F1 g1 q o1=>?_)⟩
 split at o1
 ·rename_i hd
  cases q with
  | lst sq dq =>
   rename_i ad xs ds
   refine⟨.inl ⟨rfl,xs,(R.grow g1).fh.seq sq⟩,ru H0 F0 ρ σ H1 F1 _ (R.grow g1) (OutE.fst o1 fun d2 v2 H2 F2 g2 q2 o2=>?_)⟩
   obtain⟨z,hz,k⟩:=o2.lf
   have fh:=(R.grow (g1.trans g2)).fh
   cases q2 with
   | str key ok2 =>
    dsimp only [idxD] at hz
    split at hz
    ·rename_i h
     obtain rfl:=Option.some.inj hz
     obtain⟨e1,e2,e3⟩:=dq.texts h.1
     subst e1
     obtain⟨a1,a2,a3,a4,a5⟩:=idx_facts h.2.2
     have:=List.idxOf_lt_length_of_mem h.2.2
     rw[List.length_map] at this
     exact⟨ad,_,_,_,_,rfl,rfl,fh.seq (g2.ff.seq sq),a1,a2,a3,a4,by omega,a5,k _ _ _ (Gr.refl fh) (.int _)⟩
    ·cases hz
   | _=>cases hz
  | _=>cases hd
 ·exact o1.elim
end
def strD:List D→Option D
 | [.int i]=>if 0≤i∧i≤9 then some (.str [48+i.toNat]) else none
 | _=>none
def maxD:List D→Option D
 | [.int i,.int j]=>some (.int (if j > i then j else i))
 | _=>none
section
variable {K:PySem.W.Frag}{cl:Nat→Addr}
theorem n_str:Fn1 K cl (fun xs H Q=>∃i,xs=[.int i]∧i.natAbs.log2<1920∧Q (.str (toString i)) H) strD:=fun F H vs ds d Q s q e k=>by
 match ds,q,e with
 | [.int i],q,e =>
  obtain⟨v,rfl,q1⟩:=q.one
  cases q1
  dsimp only [strD] at e
  split at e
  ·rename_i h
   obtain rfl:=Option.some.inj e
   obtain⟨n,rfl⟩:=Int.eq_ofNat_of_zero_le h.1
   have key:∀n<10,((toString ((n:Nat):Int):String):Str)=T [48+n]∧((n:Nat):Int).natAbs.log2<1920:=by decide +kernel
   have hn:n<10:=by omega
   refine⟨_,rfl,(key n hn).2,?_⟩
   have:=k (.str (T [48+n])) _ _ (Gr.refl s) (.str _ (T_ok (fun c hc=>by rw[List.mem_singleton.mp hc];omega) (by show 1≤_;decide)))
   rw[(key n hn).1]
   exact this
  ·cases e
def LI2 (f:Int→Int→Option D):List D→Option D
 | [.int i,.int j]=>f i j
 | _=>none
theorem LI2_inv {f:Int→Int→Option D}{ds:List D}{d:D}(e:LI2 f ds=some d):∃i j,ds=[.int i,.int j]∧f i j=some d:=by
 cases ds with
 | nil=>cases e
 | cons a t =>
  cases a with
  | int i =>
   cases t with
   | nil=>cases e
   | cons b t =>
    cases b with
    | int j =>
     cases t with
     | nil=>exact⟨i,j,rfl,e⟩
     | cons _ _=>cases e
    | _=>cases e
  | _=>cases e
theorem n_max:Fn1 K cl (fun xs H Q=>∃i j,xs=[.int i,.int j]∧Q (.int (if j > i then j else i)) H) maxD:=fun F H vs ds d Q s q e k=>by
 obtain⟨i,j,rfl,e1⟩:=LI2_inv (f:=fun i j=>some (.int (if j > i then j else i))) e
 obtain⟨v,w,rfl,q1,q2⟩:=q.two
 obtain rfl:=q1.intE
 obtain rfl:=q2.intE
 obtain rfl:=Option.some.inj e1
 exact⟨_,_,rfl,k _ _ _ (Gr.refl s) (.int _)⟩
end
end L2
namespace L2
open PySem PySem.Spec PyProof.Rows
section
variable {X:Cx}{cl:Nat→Addr}{E:XK}{a b e:Expr}{fa fb:Rho→Rs D}{pos:Pos}{st:Stmt}{g:Rho→Out}
def rInD (K:PySem.W.Frag)(neg:Bool):R2:=fun x y H Q=>∃d es,Is K H x d∧(Is K H y (.list es)∨Is K H y (.tuple es))∧d.depth≤60∧Q (.bl (if neg then !(es.any fun z=>PyData.eqv z d) else es.any fun z=>PyData.eqv z d)) H
theorem can_lst {K:PySem.W.Frag}{H:Hp}{v:V}{es:List PyData}(h:Is K H v (.list es)):PyData.canLayAll0 es=true:=by have:=h.can;simpa [PyData.canLay0] using this
theorem can_tup {K:PySem.W.Frag}{H:Hp}{v:V}{es:List PyData}(h:Is K H v (.tuple es)):PyData.canLayAll0 es=true:=by have:=h.can;simpa [PyData.canLay0] using this
theorem op_inDD (hu:X.A.units+64<cLine):OpR X (compareOp .In) (rInD X.K false):=by
 intro pins s σ H x y v u Q I rx ry h
 obtain⟨d,es,hd,he,hz,q⟩:=h
 obtain⟨_,ra⟩:=I.reads hd rx
 rcases he with he|he
 ·obtain⟨_,rb⟩:=I.reads he ry
  exact SeqAt.in_list_reads rb ra (can_lst he) hd.can (by omega) (fin_bl I q rfl)
 ·obtain⟨_,rb⟩:=I.reads he ry
  exact SeqAt.in_tuple_reads rb ra (can_tup he) hd.can (by omega) (fin_bl I q rfl)
def inDD (neg:Bool)(x:D):D→Option D
 | .lst es=>if x.pl=true∧D.pls es=true∧x.py.depth≤60 then some (.bl (if neg then !((D.pys es).any fun z=>PyData.eqv z x.py) else(D.pys es).any fun z=>PyData.eqv z x.py)) else none
 | .tup es=>if x.pl=true∧D.pls es=true∧x.py.depth≤60 then some (.bl (if neg then !((D.pys es).any fun z=>PyData.eqv z x.py) else(D.pys es).any fun z=>PyData.eqv z x.py)) else none
 | _=>none
theorem o_inDD {K:PySem.W.Frag}{neg:Bool}:Op2 K cl (rInD K neg) (inDD neg):=fun F H x y a b d Q s qa qb e k=>by
 match b,qb,e with
 | .lst es,qb,e =>
  dsimp only [inDD] at e
  split at e
  ·rename_i h
   obtain rfl:=Option.some.inj e
   exact⟨_,_,(qa.is h.1).mono s,.inl ((qb.is (by simpa [D.pl] using h.2.1)).mono s),h.2.2,k _ _ _ (Gr.refl s) (.bl _)⟩
  ·cases e
 | .tup es,qb,e =>
  dsimp only [inDD] at e
  split at e
  ·rename_i h
   obtain rfl:=Option.some.inj e
   exact⟨_,_,(qa.is h.1).mono s,.inr ((qb.is (by simpa [D.pl] using h.2.1)).mono s),h.2.2,k _ _ _ (Gr.refl s) (.bl _)⟩
  ·cases e
end
end L2
namespace L2
open PySem PySem.Spec PyProof.Rows
end L2
namespace L2
open PySem PySem.Spec PyProof.Rows
end L2
namespace L2
open PySem PySem.Spec PyProof.Rows
end L2
namespace L2
open PySem PySem.Spec PyProof.Rows
structure XEw (X:Cx)(cl:Nat→Addr)(E:XK)(e:Expr)(f:Rho→Rs D):Prop where
 out:XE X cl E e f
structure XAw (X:Cx)(cl:Nat→Addr)(E:XK)(es:List Expr)(f:Rho→Rs (List D)):Prop where
 out:XA X cl E es f
section
variable {X:Cx}{cl:Nat→Addr}{E:XK}{e:Expr}{es:List Expr}{f:Rho→Rs D}{fs:Rho→Rs (List D)}{pos:Pos}
theorem yw_nil:XAw X cl E [] zE:=⟨zm⟩
theorem yw_cons (h1:XEw X cl E e f)(h2:XAw X cl E es fs)(hs:starEach (e::es) X.env=(false,eval e X.env)::starEach es X.env):XAw X cl E (e::es) (zj f fs):=⟨zf h1.out h2.out hs⟩
theorem yw_lst (h:XAw X cl E es fs):XEw X cl E (.List es pos) (fO mkL fs):=⟨xe_lst h.out⟩
theorem yw_tup {x1}(h:XAw X cl E es fs):XEw X cl E (.Tuple es x1 pos) (fO mkT fs):=⟨xe_tup h.out⟩
theorem yw_str {x:Str}{j}{l:List Nat}(h:x=T l)(ok:TxtOk (T l)):XEw X cl E (.Constant (.str x) j pos) (fC (.str l)):=⟨xe_str h ok⟩
theorem yw_int {i j}:XEw X cl E (.Constant (.int i) j pos) (fC (.int i)):=⟨zH⟩
end
end L2
namespace L2
open PySem PySem.Spec PyProof.Rows
end L2
namespace L2
open PySem PySem.Spec PyProof.Rows
section
variable {X:Cx}{cl:Nat→Addr}{E:XK}{e:Expr}{f:Rho→Rs D}{p pos:Pos}{tg:Expr}
end
end L2
namespace L2
open PySem PySem.Spec PyProof.Rows
end L2
namespace L2
open PySem PySem.Spec PyProof.Rows
end L2
namespace L2
open PySem PySem.Spec PyProof.Rows
def PX (X:Cx)(e:Expr)(t:St→Hp→VK→XK→Prop):Prop:=∀(pins:List (Addr×Obj)) (s:Shared) (σ:St) (H:Hp) (Q:VK) (E:XK) (F':Value→Shared→Prop),Inv X pins σ H s →
 (∀H s e s',Inv X pins σ H s→Flown X.prog X.w X.stack H s E e s'→F' e s')→t σ H Q E→wpAny (model X.prog X.w) X.A (eval e X.env) (EP X pins σ Q) F' s
section
variable {X:Cx}{k:Nat}{f:Addr}{fd:FuncData}{ps:List Str}{sp:Sp}{x y n:Str}{p np cpos rpos hpos pos:Pos}{e c a b:Expr}{es:List Expr}{ta:TA}{tc:TT}{i:Nat}{b₀:Stmt}{suite:List Stmt}{th:TS}{more:List ExceptHandler}{tx ty:St→Hp→VK→XK→Prop}
theorem px_call (F:FnOk X.prog X.w X.K X.mg X.base (CX1 X.prog X.w) k f fd ps sp)(hr:Room k X.A)(hg:Gl X y)(hm:X.mg y=some (.ref f))(hk:PySem.W.keepIn X.K (.ref f)=true)(hb:Binds X.K fd ps [])(ha:PA X.nox (e::es) ta)
  (he:starEach (e::es) X.env=(false,eval e X.env)::starEach es X.env) (hdb:(y == ("__debug__" : Str))=false:=by decide) (hpl:(backTo cpos (starEach es X.env)).any (·.1)=false:=by rfl) :
  PX X (.Call (.Name y p) (e::es) [] cpos) (fun σ H Q E=>ta σ H fun vs H1=>sp vs H1 Q E):=by
 intro pins s σ H Q E F' I hx h
 refine wpAny_Call_Name_kw (ld_glob I hg hm ?_ hdb)
 refine PySem.W.callWith_K (h₀:=X.base) I.ok.mod.kin hk (wpAny_mono (ha cpos pins s σ H _ (I.wish _) h) (fun us s1 ⟨vs,H1,I1,r,q⟩=>⟨I1.unwish.kIn,?_⟩) fun _ _ z=>False.elim z) he hpl
 exact run_at F hr hb hx I1.unwish r q
end
def cutA {α:Type}(f:Rho→Rs α):Rho→Rs α:=fun ρ=>match f ρ with | .ex _=>.no|r=>r
def XX (X:Cx)(cl:Nat→Addr)(e:Expr)(f:Rho→Rs D):Prop:=PX X e (fun σ H Q E=>∃H0 F0 ρ F,Rl X.K cl H0 F0 ρ σ H F∧OutE X.K cl E H0 F H (f ρ) Q)
theorem PX.mono {X:Cx}{e:Expr}{t u:St→Hp→VK→XK→Prop}(h:PX X e t)(k:∀σ H Q E,u σ H Q E→t σ H Q E):PX X e u:=fun pins s σ H Q E F' I hx q=>h pins s σ H Q E F' I hx (k σ H Q E q)
section
variable {X:Cx}{cl:Nat→Addr}{x:Str}{p pos:Pos}{e c a b:Expr}{es:List Expr}
theorem xx_call {k:Nat}{f:Addr}{fd:FuncData}{ps:List Str}{fn:List D→Rs D}{n:Nat}{fs:Rho→Rs (List D)}(G:FnOk X.prog X.w X.K X.mg X.base (CX1 X.prog X.w) k f fd ps (spD X.K cl fn n))(hr:Room k X.A)(hg:Gl X x)(hm:X.mg x=some (.ref f))(hk:PySem.W.keepIn X.K (.ref f)=true)(hb:Binds X.K fd ps [])
  (ha:XA X.nox cl E0 (e::es) fs) (he:starEach (e::es) X.env=(false,eval e X.env)::starEach es X.env) (hdb:(x == ("__debug__" : Str))=false:=by decide) (hpl:(backTo pos (starEach es X.env)).any (·.1)=false:=by rfl):XX X cl (.Call (.Name x p) (e::es) [] pos) (fA (ari n fn) (cutA fs)):=by
 obtain⟨t,pt,rt⟩:=ha.ex
 refine(px_call G hr hg hm hk hb pt he hdb hpl).mono fun σ H Q E ⟨H0,F0,ρ,F,R,o⟩=>rt H0 F0 ρ σ H F _ R ?_
 unfold fA cutA at o
 cases e:fs ρ with
 | ex n=>rw[e] at o;exact o.elim
 | no=>rw[e] at o;exact o.elim
 | ok ds =>
  rw[e] at o
  intro vs H1 F1 g q
  have o1:OutE X.K cl E H0 F H (ari n fn ds) Q:=o
  unfold ari at o1
  split at o1
  ·rename_i hl
   have R1:=R.grow g
   refine⟨F1,ds,R1.fh,q,by rw[q.length,hl],?_⟩
   cases e:fn ds with
   | ok d=>rw[e] at o1;exact fun v H' F' g' q'=>o1 v H' F' (g.trans g') q'
   | ex n=>rw[e] at o1;exact fun H' s=>o1 H' (R1.gr.hh.trans s)
   | no=>rw[e] at o1;exact o1
  ·exact o1.elim
theorem own_free {ρ:Rho}(h:ρ.all (fun s=>!s.own)=true){i:Nat}{s:Sl}(e:ρ[i]? = some s):s.own=false:=by
 have:=List.all_eq_true.mp h s (List.mem_of_getElem? e)
 simpa using this
theorem Rl.base {K:PySem.W.Frag}{H0 F0 H F:Hp}{ρ:Rho}{σ:St}(R:Rl K cl H0 F0 ρ σ H F)(h:ρ.all (fun s=>!s.own)=true):Rl K cl H F ρ σ H F where
 gr:=Gr.refl R.fh
 len:=R.len
 fz:=R.fz
 own:=fun i ds e o=>by have:=own_free h e;rw[this] at o;cases o
 ap:=R.ap
theorem Gr.exc {F H H':Hp}{a:Addr}{o:HO}(h:Same F H)(s:Same H H')(ha:H' a=none):Gr F H (upd F a o) (upd H' a o):=by
 have hH:H a=none:=by
  cases z:H a with
  | none=>rfl
  | some q=>rw[s a q z] at ha;cases ha
 refine⟨Same.upd (h.free hH),s.trans (Same.upd ha),upd_mono (h.trans s),fun b o hb m q=>?_⟩
 have hne:b≠a:=fun z=>by rw[z,hH] at hb;cases hb
 rw[zP hne];exact q
def SubsOk (P:Nat→Prop)(cs:List Nat):Prop:=∀n∈cs,P n
theorem subs_nil {P:Nat→Prop}:SubsOk P []:=fun _ h=>by cases h
theorem subs_cons {P:Nat→Prop}{n:Nat}{r:List Nat}(h:P n)(t:SubsOk P r):SubsOk P (n::r):=fun m z=>by
 rcases List.mem_cons.mp z with z|z
 ·exact z▸h
 ·exact t m z
end
end L2
namespace L2
open PySem PySem.Spec PyProof.Rows
section
variable {X:Cx}{cl:Nat→Addr}
def PXs (X:Cx)(sts:List Stmt)(t:St→Hp→VK→XK→Prop):Prop:=∀(pins:List (Addr×Obj)) (s:Shared) (σ:St) (H:Hp) (D:Ends) (E:XK) (F':Value→Shared→Prop),Inv X pins σ H s →
 (∀H s e s',Inv X pins σ H s→Flown X.prog X.w X.stack H s E e s'→F' e s')→t σ H D.rt E→wpAny (model X.prog X.w) X.A (execs sts X.env) (SP X pins {D with nx:=fun _ _=>False,bk:=fun _ _=>False,ct:=fun _ _=>False}) F' s
theorem PXs.mono {sts:List Stmt}{t u:St→Hp→VK→XK→Prop}(h:PXs X sts t)(k:∀σ H Q E,u σ H Q E→t σ H Q E):PXs X sts u:=fun pins s σ H D E F' I hx q=>h pins s σ H D E F' I hx (k σ H D.rt E q)
end
end L2
namespace L2
open PySem PySem.Spec PyProof.Rows
open AutoSeq1 (wpAny_loadPart')
end L2
namespace L2
open PySem PySem.Spec PyProof.Rows
def intD:List D→Option D
 | [.bl b]=>some (.int (if b then 1 else 0))
 | _=>none
theorem n_int {K:PySem.W.Frag}{cl:Nat→Addr}:Fn1 K cl (fun xs H Q=>∃b,xs=[.bl b]∧Q (.int (if b then 1 else 0)) H) intD:=fun F H vs ds d Q s q e k=>by
 match ds,q,e with
 | [.bl b],q,e =>
  obtain⟨v,rfl,q1⟩:=q.one
  cases q1
  obtain rfl:=Option.some.inj e
  exact⟨b,rfl,k _ _ _ (Gr.refl s) (.int _)⟩
end L2
namespace L2
open PySem PySem.Spec PyProof.Rows
open AutoSeq1 (wpAny_loadPart')
end L2
namespace L2
open PySem PySem.Spec PyProof.Rows
end L2
namespace L2
open PySem PySem.Spec PyProof.Rows
end L2
namespace L2
open PySem PySem.Spec PyProof.Rows
end L2
namespace L2
open PySem
def tI (led:Bool)(ks:List Nat):SetTable:=if ks.length<5 then {mask:=7,place:=ks.toArray,dummies:=#[],finger:=0,led,moves:=0,plain:=true} else {mask:=31,place:=ks.toArray,dummies:=#[],finger:=0,led,moves:=1,plain:=true}
def subs6:List (List Nat):=([1,2,3,4,5,6]:List Nat).foldr (fun x acc=>acc++acc.map (x :: ·)) [[]]
theorem subsI:∀led,∀ks∈subs6,(tI led ks).fits ks.length=true∧(tI led ks).led=led∧(tI led ks).plain=true∧ks.length≤6∧ks.Nodup∧∀k∈ks,k∈([1,2,3,4,5,6]:List Nat):=by decide +kernel
structure StI (w:World)(es:Array (Int×Value))(t:SetTable)(ks:List Nat):Prop where
 hs:es.toList.map (·.1)=ks.map fun(k:Nat)=>(k:Int)
 vs:∀e∈es.toList,∃(k:Nat) (tk:Tok),k∈ks∧e=((k:Int),Value.int (k:Int) tk)
 tb:t=tI (!w.params.followText "set-order") ks
 sb:ks∈subs6
section
variable {prog:Program}{w:World}{A:Around}{E:Value→Shared→Prop}{s:Shared}{es:Array (Int×Value)}{t:SetTable}{ks:List Nat}
theorem StI.size (S:StI w es t ks):es.size=ks.length:=by
 have:=congrArg List.length S.hs
 simpa using this
theorem StI.fits (S:StI w es t ks):t.fits es.size=true:=by rw[S.size,S.tb];exact(subsI _ ks S.sb).1
theorem StI.find (S:StI w es t ks)(x:Nat):(∃e∈es.toList,Value.isInt (x:Int) e.2=true)↔x∈ks:=by
 constructor
 ·rintro ⟨e,he,h⟩
  obtain⟨k,tk,hk,rfl⟩:=S.vs e he
  have:(x:Int)=(k:Int):=by
   obtain⟨t,e⟩:=Value.isInt_shape h
   injection e with e _
   exact e.symm
  have:x=k:=by omega
  subst this;exact hk
 ·intro hx
  have:(x:Int)∈es.toList.map (·.1):=by rw[S.hs];exact List.mem_map_of_mem hx
  obtain⟨e,he,e1⟩:=List.mem_map.mp this
  obtain⟨k,tk,hk,rfl⟩:=S.vs e he
  refine⟨_,he,?_⟩
  dsimp only at e1
  rw[e1]
  simp[Value.isInt]
end
end L2
namespace L2
open PySem
end L2
set_option maxHeartbeats 3200000
namespace L2
open PySem
section
variable {prog:Program}{w:World}{A:Around}{E:Value→Shared→Prop}{s:Shared}
theorem StI.new:StI w #[] (.fresh 0 0 (!w.params.followText "set-order")) []:=⟨rfl,fun e he=>by simp at he,rfl,by decide⟩
end
end L2
namespace L2
open PySem PySem.Spec PyProof.Rows
section
variable {prog:Program}{w:World}{A:Around}{E:Value→Shared→Prop}{s:Shared}
end
end L2
set_option maxHeartbeats 1000000
namespace L2
open PySem PySem.Spec PyProof.Rows
end L2
namespace L2
open PySem PySem.W PyProof.Rows
structure Ord (n:Nat)(b:Nat→Nat→Bool):Prop where
 tr:∀i j k,i<n→j<n→k<n→b i j=true→b j k=true→b i k=true
 tot:∀i j,i<n→j<n→i≠j→b i j=false→b j i=true
 ir:∀i,i<n→b i i=false
def PP (n:Nat)(p:Array Nat):Prop:=p.toList.Perm (List.range n)
section
variable {n:Nat}{b:Nat→Nat→Bool}{cmp:Nat→Nat→(Bool→Shared→Prop)→Shared→Prop}{s:Shared}{p:Array Nat}
theorem gd (p:Array Nat)(i:Nat):p.getD i 0=(p[i]?).getD 0:=by simp[Array.getD];split <;>simp_all
theorem PP.size (h:PP n p):p.size=n:=by have:=h.length_eq;simpa using this
theorem PP.lt (h:PP n p){i:Nat}(hi:i<n):p.getD i 0<n:=by
 have hs:=h.size
 have e:p.getD i 0=p[i]'(by omega):=by rw[gd,getElem?_pos p i (by omega)];rfl
 rw[e]
 exact List.mem_range.mp (h.mem_iff.mp (Array.getElem_mem_toList (by omega)))
theorem PP.inj (h:PP n p){i j:Nat}(hi:i<n)(hj:j<n)(hij:i≠j):p.getD i 0≠p.getD j 0:=by
 have hs:=h.size
 have nd:p.toList.Nodup:=h.nodup_iff.mpr List.nodup_range
 have e:∀k,k<n→p.getD k 0=p.toList.getD k 0:=fun k hk=>by rw[gd];simp
 rw[e i hi,e j hj]
 intro z
 have hl:p.toList.length=n:=by simpa using hs
 rw[List.getD_eq_getElem?_getD,List.getD_eq_getElem?_getD,List.getElem?_eq_getElem (by omega),List.getElem?_eq_getElem (by omega)] at z
 have pw:=List.pairwise_iff_getElem.mp nd
 rcases Nat.lt_or_gt_of_ne hij with c|c
 ·exact pw i j (by omega) (by omega) c z
 ·exact pw j i (by omega) (by omega) c z.symm
def Sd (b:Nat→Nat→Bool)(k:Nat)(p:Array Nat):Prop:=∀i j,i<j→j<k→b (p.getD i 0) (p.getD j 0)=true
def Dd (b:Nat→Nat→Bool)(k:Nat)(p:Array Nat):Prop:=∀i j,i<j→j<k→b (p.getD j 0) (p.getD i 0)=true
variable (O:Ord n b)(hc:∀i j (C:Bool→Shared→Prop),i<n→j<n→C (b i j) s→cmp i j C s)
include O hc
theorem st_asc (hp:PP n p){Q:Nat→Shared→Prop}:∀(f m:Nat),1≤m→m+f=n→Sd b m p→(∀m',m≤m'→m'≤n→Sd b m' p→(m'<n→b (p.getD m' 0) (p.getD (m' - 1) 0)=true)→Q m' s)→(kas_asc p f m).kasWp cmp Q s
 | 0,m,h1,h2,h3,q=>q m (Nat.le_refl _) (by omega) h3 (fun h=>by omega)
 | f + 1,m,h1,h2,h3,q=>by
  refine hc _ _ _ (hp.lt (by omega)) (hp.lt (by omega)) ?_
  cases e:b (p.getD m 0) (p.getD (m - 1) 0) with
  | true=>exact q m (Nat.le_refl _) (by omega) h3 fun _=>e
  | false =>
   refine st_asc hp f (m+1) (by omega) (by omega) ?_ fun m' a1 a2 a3 a4=>q m' (by omega) a2 a3 a4
   have e':=O.tot _ _ (hp.lt (show m<n by omega)) (hp.lt (show m - 1<n by omega)) (hp.inj (by omega) (by omega) (by omega)) e
   intro i j hij hj
   by_cases hjm:j=m
   ·subst hjm
    by_cases hi:i=j - 1
    ·rw[hi];exact e'
    ·exact O.tr _ _ _ (hp.lt (by omega)) (hp.lt (by omega)) (hp.lt (by omega)) (h3 i (j - 1) (by omega) (by omega)) e'
   ·exact h3 i j hij (by omega)
theorem st_desc (hp:PP n p){Q:Array Nat×Nat×Nat→Shared→Prop}:∀(f m:Nat),1≤m→m+f=n→Dd b m p→(∀m',m≤m'→m'≤n→Dd b m' p→Q (p,m',0) s)→(kas_desc f p m 0).kasWp cmp Q s
 | 0,m,h1,h2,h3,q=>q m (Nat.le_refl _) (by omega) h3
 | f + 1,m,h1,h2,h3,q=>by
  refine hc _ _ _ (hp.lt (by omega)) (hp.lt (by omega)) ?_
  cases e:b (p.getD m 0) (p.getD (m - 1) 0) with
  | true =>
   refine st_desc hp f (m+1) (by omega) (by omega) ?_ fun m' a1 a2 a3=>q m' (by omega) a2 a3
   intro i j hij hj
   by_cases hjm:j=m
   ·subst hjm
    by_cases hi:i=j - 1
    ·rw[hi];exact e
    ·exact O.tr _ _ _ (hp.lt (by omega)) (hp.lt (by omega)) (hp.lt (by omega)) e (h3 i (j - 1) (by omega) (by omega))
   ·exact h3 i j hij (by omega)
  | false =>
   have e':=O.tot _ _ (hp.lt (show m<n by omega)) (hp.lt (show m - 1<n by omega)) (hp.inj (by omega) (by omega) (by omega)) e
   refine hc _ _ _ (hp.lt (by omega)) (hp.lt (by omega)) ?_
   rw[e']
   exact q m (Nat.le_refl _) (by omega) h3
omit O hc in
theorem rev_pp (hp:PP n p)(i j:Nat):PP n (kas_rev p i j):=((mirror_perm p i j _).toList).trans hp
omit O hc in
theorem rev_sd (hp:PP n p){m:Nat}(hm:m≤n)(h:Dd b m p):Sd b m (kas_rev p 0 m):=by
 have hs:=hp.size
 have e:∀k,k<m→(kas_rev p 0 m).getD k 0=p.getD (m - 1 - k) 0:=fun k hk=>by
  rw[gd,gd]
  unfold kas_rev
  rw[getElem?_mirror_all (by omega),if_pos ⟨Nat.zero_le _,hk⟩,Nat.zero_add]
 intro i j hij hj
 rw[e i (by omega),e j hj]
 exact h _ _ (by omega) (by omega)
theorem st_tail (hp:PP n p){m:Nat}(h1:1≤m)(hm:m≤n)(h:Dd b m p){Q:Nat×Array Nat→Shared→Prop}(q:∀m' p',PP n p'→1≤m'→m'≤n→Sd b m' p'→Q (m',p') s):(kas_tail3 m n p).kasWp cmp Q s:=by
 unfold kas_tail3
 rw[KasT.kasWp_bind]
 exact st_asc O hc (rev_pp hp 0 m) (n - m) m h1 (by omega) (rev_sd hp hm h) fun m' a1 a2 a3 _=>q m' _ (rev_pp hp 0 m) (by omega) a2 a3
theorem st_count (hp:PP n p)(h2:2≤n){Q:Nat×Array Nat→Shared→Prop}(q:∀m' p',PP n p'→1≤m'→m'≤n→Sd b m' p'→Q (m',p') s):(kas_count n p).kasWp cmp Q s:=by
 unfold kas_count
 rw[KasT.kasWp_bind]
 refine st_asc O hc hp (n - 1) 1 (Nat.le_refl _) (by omega) (fun i j hij hj=>by omega) fun m a1 a2 a3 a4=>?_
 by_cases e:m=n
 ·rw[if_pos (by simp[e])]
  exact q m p hp a1 a2 a3
 ·rw [if_neg (by simp[e])]
  by_cases g:m > 1
  ·rw[if_pos g]
   refine hc _ _ _ (hp.lt (by omega)) (hp.lt (by omega)) ?_
   rw[a3 0 (m - 1) (by omega) (by omega)]
   exact q m p hp a1 a2 a3
  ·rw [if_neg g]
   have m1:m=1:=by omega
   subst m1
   unfold kas_descPart
   rw[KasT.kasWp_bind]
   have a4':=a4 (by omega)
   refine st_desc O hc hp (n - (1+1)) (1+1) (by omega) (by omega) (fun i j hij hj=>?_) fun m' b1 b2 b3=>?_
   ·have:i=0∧j=1:=by omega
    rw[this.1,this.2]
    exact a4'
   ·rw[if_neg (by show ¬0 > 0;omega)]
    exact st_tail O hc hp (by omega:1≤m') b2 b3 q
theorem st_place (hp:PP n p){k:Nat}(hk:k<n)(sd:Sd b k p){Q:Nat→Shared→Prop}(q:∀l,l≤k→(∀i,i<l→b (p.getD i 0) (p.getD k 0)=true)→(∀i,l≤i→i<k→b (p.getD k 0) (p.getD i 0)=true)→Q l s) :
  ∀(f l r:Nat),l≤r→r≤k→r - l≤f→(∀i,i<l→b (p.getD i 0) (p.getD k 0)=true)→(∀i,r≤i→i<k→b (p.getD k 0) (p.getD i 0)=true)→(kas_place p k f l r).kasWp cmp Q s
 | 0,l,r,h1,h2,h3,ha,hb=>q l (by omega) ha fun i hi=>hb i (by omega)
 | f + 1,l,r,h1,h2,h3,ha,hb=>by
  unfold kas_place
  by_cases g:l≥r
  ·rw[if_pos g]
   exact q l (by omega) ha fun i hi=>hb i (by omega)
  ·rw [if_neg g]
   have mk:(l+r) / 2<k:=by omega
   refine hc _ _ _ (hp.lt (by omega)) (hp.lt (by omega)) ?_
   cases e:b (p.getD k 0) (p.getD ((l+r) / 2) 0) with
   | true =>
    refine st_place hp hk sd q f l ((l+r) / 2) (by omega) (by omega) (by omega) ha fun i hi hik=>?_
    by_cases z:i=(l+r) / 2
    ·rw[z];exact e
    ·exact O.tr _ _ _ (hp.lt (by omega)) (hp.lt (by omega)) (hp.lt (by omega)) e (sd _ i (by omega) hik)
   | false =>
    have e':=O.tot _ _ (hp.lt hk) (hp.lt (show(l+r) / 2<n by omega)) (hp.inj hk (by omega) (by omega)) e
    refine st_place hp hk sd q f ((l+r) / 2+1) r (by omega) (by omega) (by omega) (fun i hi=>?_) hb
    by_cases z:i=(l+r) / 2
    ·rw[z];exact e'
    ·exact O.tr _ _ _ (hp.lt (by omega)) (hp.lt (by omega)) (hp.lt (by omega)) (sd i _ (by omega) mk) e'
theorem st_bin {Q:Array Nat→Shared→Prop}(q:∀p',PP n p'→Sd b n p'→Q p' s):∀(f k:Nat) (p:Array Nat),PP n p→k+f=n→Sd b k p→(kas_bin f p k).kasWp cmp Q s
 | 0,k,p,hp,h1,sd=>q p hp ((show k=n by omega)▸sd)
 | f + 1,k,p,hp,h1,sd=>by
  unfold kas_bin
  rw[KasT.kasWp_bind]
  refine st_place O hc hp (show k<n by omega) sd (fun l hl ha hb=>?_) k 0 k (Nat.zero_le _) (Nat.le_refl _) (by omega) (fun i hi=>by omega) (fun i hi hk=>by omega)
  have hs:=hp.size
  have e:∀i,(bubble p k (k - l)).getD i 0=if i=l then p.getD k 0 else if l<i∧i≤k then p.getD (i - 1) 0 else p.getD i 0:=fun i=>by
   rw[gd,getElem?_bubble (by omega) _ (by omega)]
   rw[show k - (k - l)=l by omega]
   repeat' split
   all_goals rw[gd]
  refine st_bin q f (k+1) (bubble p k (k - l)) (((bubble_perm p k _).toList).trans hp) (by omega) fun i j hij hj=>?_
  rw[e i,e j]
  by_cases c1:i=l
  ·rw[if_pos c1,if_neg (by omega),if_pos (by omega)]
   exact hb _ (by omega) (by omega)
  ·rw [if_neg c1]
   by_cases c2:j=l
   ·rw[if_pos c2,if_neg (by omega)]
    exact ha i (by omega)
   ·rw [if_neg c2]
    by_cases c3:l<j
    ·rw[if_pos (show l<j∧j≤k by omega)]
     by_cases c4:l<i
     ·rw[if_pos (by omega)];exact sd _ _ (by omega) (by omega)
     ·rw[if_neg (by omega)];exact sd _ _ (by omega) (by omega)
    ·rw[if_neg (show ¬(l<j∧j≤k) by omega),if_neg (by omega)]
     exact sd _ _ hij (by omega)
theorem st_sort (h2:2≤n){Q:Array Nat→Shared→Prop}(q:∀p',PP n p'→Sd b n p'→Q p' s):(kas_sort n).kasWp cmp Q s:=by
 unfold kas_sort
 rw[KasT.kasWp_bind]
 refine st_count O hc (p:=List.toArray (List.range n)) (by unfold PP;exact List.Perm.refl _) h2 fun m p' hp a1 a2 a3=>?_
 dsimp only
 by_cases g:m<n
 ·rw[if_pos g]
  rw[show max m 1=m by omega]
  exact st_bin O hc q (n - m) m p' hp (by omega) a3
 ·rw[if_neg g]
  exact q p' hp ((show m=n by omega)▸a3)
end
end L2
namespace L2
open PySem PySem.W PyProof.Rows
def akLt:Key→Key→Bool
 | .inl i,.inl j=>decide (i<j)
 | .inr a,.inr b=>decide (a.cps.toList<b.cps.toList)
 | _,_=>false
def akOk:Key→Key→Bool
 | .inl _,.inl _=>true
 | .inr _,.inr _=>true
 | _,_=>false
def ksLt:List Key→List Key→Bool
 | [],[]=>false
 | [],_::_=>true
 | _::_,[]=>false
 | x::xs,y::ys=>if x=y then ksLt xs ys else akLt x y
def ksOk:List Key→List Key→Bool
 | x::xs,y::ys=>akOk x y&&ksOk xs ys
 | _,_=>true
section
variable {prog:Program}{w:World}{A:Around}{E:Value→Shared→Prop}{s:Shared}
theorem one_lt {x y:Key}{p q:Value}{b:Bool}{Q:Bool→Shared→Prop}(o:akOk x y=true)(rp:RelV (kV x) p)(rq:RelV (kV y) q)(h:Q (akLt x y) s):wpAny (model prog w) A (oneLt' b p q) Q E s:=by
 cases x with
 | inl i =>
  cases y with
  | inl j =>
   obtain⟨t,rfl⟩:=rp
   obtain⟨u,rfl⟩:=rq
   cases b with
   | true=>exact oneLt_int h
   | false=>exact kat_one _ _ (lt_int h)
  | inr j=>cases o
 | inr i =>
  cases y with
  | inl j=>cases o
  | inr j =>
   obtain⟨t,rfl⟩:=rp
   obtain⟨u,rfl⟩:=rq
   cases b with
   | true=>exact oneLt_str h
   | false=>exact kat_one _ _ (lt_str h)
theorem one_eq {x y:Key}{p q:Value}{Q:Bool→Shared→Prop}(o:akOk x y=true)(rp:RelV (kV x) p)(rq:RelV (kV y) q)(h:Q (decide (x=y)) s):wpAny (model prog w) A (eqBool p q) Q E s:=by
 cases x with
 | inl i =>
  cases y with
  | inl j =>
   obtain⟨t,rfl⟩:=rp
   obtain⟨u,rfl⟩:=rq
   refine wpAny_eqBool_int ?_
   have:(i == j)=decide ((Sum.inl i:Key)=.inl j):=by by_cases z:i=j <;>simp[z]
   rw[this];exact h
  | inr j=>cases o
 | inr i =>
  cases y with
  | inl j=>cases o
  | inr j =>
   obtain⟨t,rfl⟩:=rp
   obtain⟨u,rfl⟩:=rq
   refine wpAny_eqBool_str ?_
   have:decide (i=j)=decide ((Sum.inr i:Key)=.inr j):=by by_cases z:i=j <;>simp[z]
   rw[this];exact h
theorem kat_lex {fin:Bool}{Q:Bool→Shared→Prop}:∀(xs ys:List Key) (us vs:List Value) (i:Nat),Vals (xs.map kV) us→Vals (ys.map kV) vs→ksOk xs ys=true→fin=decide (xs.length<ys.length)→Q (ksLt xs ys) s→KatLex prog w A true fin Q (us.zip vs) i s
 | [],[],us,vs,i,r1,r2,o,f,q=>by
  cases r1;cases r2
  refine kat_nil ?_
  rw[f];exact q
 | [],y::ys,us,vs,i,r1,r2,o,f,q=>by
  cases r1
  refine kat_nil ?_
  rw[f,decide_eq_true (by simp)];exact q
 | x::xs,[],us,vs,i,r1,r2,o,f,q=>by
  cases r2
  rw[List.zip_nil_right]
  refine kat_nil ?_
  rw[f,decide_eq_false (by simp)];exact q
 | x::xs,y::ys,us,vs,i,r1,r2,o,f,q=>by
  cases r1 with
  | cons rp r1 =>
  cases r2 with
  | cons rq r2 =>
  unfold ksOk at o
  rw[Bool.and_eq_true] at o
  rw[List.zip_cons_cons]
  refine kat_cons (one_eq o.1 rp rq ?_)
  unfold ksLt at q
  by_cases z:x=y
  ·rw[decide_eq_true z]
   rw[if_pos z] at q
   exact kat_yes (kat_lex xs ys _ _ (i+1) r1 r2 o.2 (by rw[f];simp) q)
  ·rw[decide_eq_false z]
   rw[if_neg z] at q
   exact kat_no (one_lt o.1 rp rq q)
end
theorem nl_total:∀{a b:List Nat},¬a<b→a≠b→b<a:=fun {a b} h z=>by
 have h1:=List.not_lt.mp h
 rcases Classical.em (b<a) with c|c
 ·exact c
 ·exact absurd (List.le_antisymm (List.not_lt.mp c) h1) z
theorem str_eq {a b:Str}(h:a.cps.toList=b.cps.toList):a=b:=by
 cases a;cases b
 simp only at h
 congr 1
 exact Array.toList_inj.mp h
theorem akLt_tot {x y:Key}(o:akOk x y=true)(z:x≠y)(h:akLt x y=false):akLt y x=true:=by
 cases x with
 | inl i =>
  cases y with
  | inl j =>
   have h':decide (i<j)=false:=h
   have:i≠j:=fun e=>z (by rw[e])
   have h2:=of_decide_eq_false h'
   show decide (j<i)=true
   exact decide_eq_true (by omega)
  | inr j=>cases o
 | inr i =>
  cases y with
  | inl j=>cases o
  | inr j =>
   have h2:=of_decide_eq_false (show decide (i.cps.toList<j.cps.toList)=false from h)
   exact decide_eq_true (nl_total h2 fun e=>z (by rw[str_eq e]))
theorem akLt_ir (x:Key):akLt x x=false:=by
 cases x with
 | inl i=>exact decide_eq_false (by omega)
 | inr i=>exact decide_eq_false (List.lt_irrefl _)
theorem akLt_tr:∀{x y z:Key},akLt x y=true→akLt y z=true→akLt x z=true
 | .inl i,.inl j,.inl k,h1,h2=>by
  have a:i<j:=of_decide_eq_true h1
  have b:j<k:=of_decide_eq_true h2
  exact decide_eq_true (by omega)
 | .inr i,.inr j,.inr k,h1,h2=>decide_eq_true (List.lt_trans (of_decide_eq_true h1) (of_decide_eq_true h2))
 | .inl _,.inr _,_,h1,_=>by cases h1
 | .inr _,.inl _,_,h1,_=>by cases h1
 | .inl _,.inl _,.inr _,_,h2=>by cases h2
 | .inr _,.inr _,.inl _,_,h2=>by cases h2
theorem ksLt_ir:∀xs:List Key,ksLt xs xs=false
 | []=>rfl
 | x::xs=>by unfold ksLt;rw[if_pos rfl];exact ksLt_ir xs
theorem ksLt_tot:∀{xs ys:List Key},ksOk xs ys=true→xs≠ys→ksLt xs ys=false→ksLt ys xs=true
 | [],[],_,z,_=>absurd rfl z
 | [],_::_,_,_,h=>by cases h
 | _::_,[],_,_,_=>rfl
 | x::xs,y::ys,o,z,h=>by
  unfold ksOk at o
  rw[Bool.and_eq_true] at o
  unfold ksLt at h ⊢
  by_cases e:x=y
  ·rw[if_pos e] at h
   rw[if_pos e.symm]
   exact ksLt_tot o.2 (fun q=>z (by rw[e,q])) h
  ·rw[if_neg e] at h
   rw[if_neg fun q=>e q.symm]
   exact akLt_tot o.1 e h
theorem ksLt_tr:∀{xs ys zs:List Key},ksLt xs ys=true→ksLt ys zs=true→ksLt xs zs=true
 | [],[],_,h,_=>by cases h
 | [],_::_,[],_,h=>by cases h
 | [],_::_,_::_,_,_=>rfl
 | _::_,[],_,h,_=>by cases h
 | _::_,_::_,[],_,h=>by cases h
 | x :: xs,y::ys,z::zs,h1,h2=>by
  unfold ksLt at h1 h2 ⊢
  by_cases e1:x=y
  ·subst e1
   rw[if_pos rfl] at h1
   by_cases e2:x=z
   ·rw[if_pos e2] at h2 ⊢
    exact ksLt_tr h1 h2
   ·rw[if_neg e2] at h2 ⊢
    exact h2
  ·rw [if_neg e1] at h1
   by_cases e2:y=z
   ·subst e2
    rw[if_neg e1]
    exact h1
   ·rw [if_neg e2] at h2
    have h3:=akLt_tr h1 h2
    by_cases e3:x=z
    ·subst e3
     rw[akLt_ir] at h3
     cases h3
    ·rw[if_neg e3]
     exact h3
end L2
namespace L2
open PySem PySem.W PyProof.Rows
section
variable {prog:Program}{w:World}{A:Around}{E:Value→Shared→Prop}{s:Shared}
abbrev sortMid (h:Heap)(a:Addr)(vs:List Value):Heap:=((h.update a (Obj.mapSeq fun _=>#[])).push (seqObj "tuple" vs.toArray 0)).push (seqObj "list" #[] 0)
theorem list_sort_treeA {κ:SortKind}{b:Nat→Nat→Bool}{a:Addr}{vs:List Value}{n:Nat}{P:PySem.Fin→Shared→Prop}(ho:s.heap.get? a=some (seqObj "list" vs.toArray n))(O:Ord vs.length b)
  (hkk:2≤vs.length→∀(Q:SortKind→Shared→Prop),Q κ {s with heap:=sortMid s.heap a vs}→wpAny (model prog w) A (keyKind' vs.toArray) Q E {s with heap:=sortMid s.heap a vs})
  (hc:∀i j (C:Bool→Shared→Prop),i<vs.length→j<vs.length→C (b i j) {s with heap:=sortMid s.heap a vs}→kas_ask prog w A κ vs i j C {s with heap:=sortMid s.heap a vs}) (h64:vs.length<64)
  (h:∀p,PP vs.length p→Sd b vs.length p→P (.done (.ret .none)) {s with heap:=sortedHeap s.heap a vs (List.toArray (p.toList.map fun i=>vs.getD i Value.none))}) :
  wpAny (model prog w) A (Builtin.«list.sort» ⟨[.ref a],[]⟩) P E s:=by
 rw[list_sort_plain]
 have ha:a<s.heap.objs.size:=Heap.lt_size ho
 refine wpAny_bind (listItems_at ho rfl ?_)
 refine wpAny_bind (listUpdate_at ho rfl ?_)
 obtain⟨e1,ho1⟩:∃e1,(s.heap.update a (Obj.mapSeq fun _=>#[])).get? a=some (seqObj "list" #[] e1):=⟨_,get?_update_seq ho (fun _=>#[])⟩
 refine wpAny_bind (seqEpoch_at ho1 rfl ?_)
 refine wpAny_bind (wpAny_newTuple ?_)
 refine wpAny_bind (wpAny_newList ?_)
 refine wpAny_holding ?_
 have ho6:(sortMid s.heap a vs).get? a=some (seqObj "list" #[] e1):=by
  rw[Heap.get?_push_ne _ _ _ (by rw[size_push',Heap.size_update];exact Nat.ne_of_lt (Nat.lt_succ_of_lt ha)),Heap.get?_push_ne _ _ _ (by rw[Heap.size_update];exact Nat.ne_of_lt ha)]
  exact ho1
 show wpAny (model prog w) A _ P E {s with heap:=sortMid s.heap a vs}
 dsimp only
 have hsz:vs.toArray.size=vs.length:=by simp
 by_cases h2:vs.toArray.size<2
 ·rw [if_pos h2,if_pos h2]
  refine wpAny_bind (wpAny_pure ?_)
  rw[StateT.run_pure]
  refine wpAny_bind (wpAny_pure ?_)
  dsimp only
  refine wpAny_bind (seqEpoch_at ho6 rfl ?_)
  refine wpAny_bind (listUpdate_at ho6 rfl ?_ (hsz2:=by rw[Array.size_map];show(pairsOf vs).size≤_;rw[pairsOf_size,sizeLine_eq];omega))
  simp only[bne_self_eq_false,Bool.false_eq_true,if_false]
  have f:=h (List.toArray (List.range vs.length)) (List.Perm.refl _) (fun i j hij hj=>by omega)
  have e:(List.toArray ((List.toArray (List.range vs.length)).toList.map fun i=>vs.getD i Value.none))=(vs.toArray.zip vs.toArray).map (·.2):=by
   apply Array.toList_inj.mp
   apply List.ext_getElem
   ·simp
   ·intro i h1 h2
    have hi:i<vs.length:=by simpa using h1
    simp[hi]
  rw[e] at f
  exact wpAny_pure f
 ·rw [if_neg h2,if_neg h2]
  rw[hsz] at h2
  refine wpAny_bind (hkk (by omega) _ ?_)
  refine wpAny_bind (wpAny_mono (kat_run (ks:=vs) (κ:=κ) (Q:=fun st' s'=>s'={s with heap:=sortMid s.heap a vs}∧∃p:Array Nat,PP vs.length p∧Sd b vs.length p∧arrOf st'=p.map (kas_item (vs.toArray.zip vs.toArray))∧failedOf st'=none)
   (G:=fun p s'=>s'={s with heap:=sortMid s.heap a vs}∧PP vs.length p∧Sd b vs.length p) rfl (by omega) h64 (fun p st' s' a1 a2 a3 a4=>⟨a4.1,p,a4.2.1,a4.2.2,a2,a3⟩)
   (st_sort O hc (by omega) fun p' q1 q2=>⟨rfl,q1,q2⟩)) ?_ fun _ _ e=>e)
  rintro⟨⟨⟩,st'⟩ s' ⟨rfl,p,hp,sd,har,hf⟩
  dsimp only
  have hout:=kat_snds (ks:=vs) rfl har
  rw[hout]
  have hz:(List.toArray (p.toList.map fun i=>vs.getD i Value.none)).size=vs.length:=by rw[List.size_toArray,List.length_map,Array.length_toList];exact hp.size
  refine wpAny_bind (seqEpoch_at ho6 rfl ?_)
  refine wpAny_bind (listUpdate_at ho6 rfl ?_ (hsz2:=by rw[hz,sizeLine_eq];omega))
  rw[hf]
  simp only[bne_self_eq_false,Bool.false_eq_true,if_false]
  exact wpAny_pure (h p hp sd)
end
def kInt:Key→Bool
 | .inl _=>true
 | .inr _=>false
structure Srtb (kss:List (List Key)):Prop where
 ne:∃c,∀ks∈kss,∃k r,ks=k::r∧kInt k=c
 ok:∀x∈kss,∀y∈kss,ksOk x y=true
 nd:kss.Nodup
section
variable {X:Cx}
theorem Srtb.ord {kss:List (List Key)}(h:Srtb kss):Ord kss.length fun i j=>ksLt (kss.getD i []) (kss.getD j []):=by
 have mem:∀i,i<kss.length→kss.getD i []∈kss:=fun i hi=>by rw[List.getD_eq_getElem?_getD,List.getElem?_eq_getElem hi];exact List.getElem_mem hi
 refine⟨fun i j k _ _ _ a b=>ksLt_tr a b,fun i j hi hj hij e=>ksLt_tot (h.ok _ (mem i hi) _ (mem j hj)) (fun z=>hij ?_) e,fun i _=>ksLt_ir _⟩
 rw[List.getD_eq_getElem?_getD,List.getD_eq_getElem?_getD,List.getElem?_eq_getElem hi,List.getElem?_eq_getElem hj] at z
 have pw:=List.pairwise_iff_getElem.mp h.nd
 rcases Nat.lt_trichotomy i j with c|c|c
 ·exact absurd z (pw i j hi hj c)
 ·exact c
 ·exact absurd z.symm (pw j i hj hi c)
end
end L2
namespace L2
open PySem PySem.W PyProof.Rows
def insP (x:D):List D→List D
 | []=>[x]
 | y::ys=>if ksLt (kkOf x) (kkOf y) then x::y::ys else y::insP x ys
def sortP (ds:List D):List D:=ds.foldr insP []
def SrtD (ds:List D):Prop:=Srtb (ds.map kkOf)∧(∀d∈ds,isTA d=true)∧ds.length<64
theorem insP_perm (x:D):∀ys:List D,(insP x ys).Perm (x::ys)
 | []=>List.Perm.refl _
 | y::ys=>by
  unfold insP
  split
  ·exact List.Perm.refl _
  ·exact((insP_perm x ys).cons y).trans (List.Perm.swap x y ys)
theorem sortP_perm:∀ds:List D,(sortP ds).Perm ds
 | []=>List.Perm.refl _
 | d::ds=>(insP_perm d (sortP ds)).trans ((sortP_perm ds).cons d)
def RisP (ds:List D):Prop:=ds.Pairwise fun a b=>ksLt (kkOf a) (kkOf b)=true
theorem insP_ris {x:D}:∀{ys:List D},RisP ys→(∀y∈ys,ksOk (kkOf x) (kkOf y)=true∧kkOf x≠kkOf y)→RisP (insP x ys)
 | [],_,_=>List.pairwise_singleton _ _
 | y :: ys,r,h=>by
  unfold insP
  obtain⟨r1,r2⟩:=List.pairwise_cons.mp r
  by_cases e:ksLt (kkOf x) (kkOf y)=true
  ·rw[if_pos e]
   refine List.pairwise_cons.mpr ⟨fun z hz=>?_,r⟩
   rcases List.mem_cons.mp hz with rfl|hz
   ·exact e
   ·exact ksLt_tr e (r1 z hz)
  ·rw [if_neg e]
   refine List.pairwise_cons.mpr ⟨fun z hz=>?_,insP_ris r2 fun z hz=>h z (List.mem_cons_of_mem _ hz)⟩
   rcases List.mem_cons.mp ((insP_perm x ys).mem_iff.mp hz) with rfl|hz
   ·obtain⟨o,n⟩:=h y List.mem_cons_self
    exact ksLt_tot o n (by simpa using e)
   ·exact r1 z hz
theorem sortP_ris:∀{ds:List D},Srtb (ds.map kkOf)→RisP (sortP ds)
 | [],_=>List.Pairwise.nil
 | d::ds,h=>by
  have nd:=h.nd
  rw[List.map_cons,List.nodup_cons] at nd
  have h':Srtb (ds.map kkOf):=by
   obtain⟨c,hc⟩:=h.ne
   exact⟨⟨c,fun ks hk=>hc ks (by rw[List.map_cons];exact List.mem_cons_of_mem _ hk)⟩,fun x hx y hy=>h.ok x (by rw[List.map_cons];exact List.mem_cons_of_mem _ hx) y (by rw[List.map_cons];exact List.mem_cons_of_mem _ hy),nd.2⟩
  refine insP_ris (sortP_ris h') fun y hy=>?_
  have hy':=(sortP_perm ds).mem_iff.mp hy
  have my:kkOf y∈ds.map kkOf:=List.mem_map.mpr ⟨y,hy',rfl⟩
  exact⟨h.ok _ (by rw[List.map_cons];exact List.mem_cons_self) _ (by rw[List.map_cons];exact List.mem_cons_of_mem _ my),fun e=>nd.1 (e▸my)⟩
theorem RisP.unique {a b:List D}(ha:RisP a)(hb:RisP b)(p:a.Perm b):a=b:=List.Perm.eq_of_pairwise (fun x y _ _ h k=>by have:=ksLt_tr h k;rw[ksLt_ir] at this;cases this) ha hb p
theorem sortP_same {ds:List D}(h:Srtb (ds.map kkOf))(r:RisP ds):sortP ds=ds:=(sortP_ris h).unique r (sortP_perm ds)
section
variable {K:PySem.W.Frag}{cl:Nat→Addr}{F:Hp}
theorem Dts.atoms:∀{vs:List V}{ds:List D},Dts K cl F vs ds→ds.all isAt=true→vs=(ds.map kOf).map kV
 | _,_,.nil,_=>rfl
 | _,_,.cons q r,h=>by
  rw[List.all_cons,Bool.and_eq_true] at h
  have e:=Dts.atoms r h.2
  cases q with
  | int i=>rw[e];rfl
  | str l ok=>rw[e];rfl
  | _=>simp[isAt] at h
theorem Dts.tups:∀{vs:List V}{ds:List D},Dts K cl F vs ds→(∀d∈ds,isTA d=true)→∃ts:List Addr,vs=ts.map V.ref∧ts.length=ds.length∧∀i,i<ds.length→SqT K F (ts.getD i 0) (((ds.map kkOf).getD i []).map kV)
 | _,_,.nil,_=>⟨[],rfl,rfl,fun i hi=>by simp at hi⟩
 | _,_,.cons q r,h=>by
  obtain⟨ts,e1,e2,e3⟩:=Dts.tups r fun d hd=>h d (List.mem_cons_of_mem _ hd)
  have h0:=h _ List.mem_cons_self
  cases q with
  | tup sq dq =>
   rename_i a xs ds'
   have ex:=dq.atoms h0
   refine⟨a::ts,by rw[e1];rfl,by simp[e2],fun i hi=>?_⟩
   cases i with
   | zero=>show SqT K F a ((ds'.map kOf).map kV);rw[← ex];exact sq
   | succ i=>exact e3 i (by simpa using hi)
  | _=>simp[isTA] at h0
end
section
variable {X:Cx}{cl:Nat→Addr}{E:XK}{e:Expr}{fa:Rho→Rs D}{p pos:Pos}
theorem map_at {α:Type}{d:α}(ds:List α)(π:List Nat)(hp:π.Perm (List.range ds.length)):(π.map fun i=>ds.getD i d).Perm ds:=by
 have h:=hp.map fun i=>ds.getD i d
 have e:(List.range ds.length).map (fun i=>ds.getD i d)=ds:=by
  apply List.ext_getElem
  ·simp
  ·intro i h1 h2
   simp[h2]
 rw[e] at h
 exact h
end
end L2
namespace L2
open PySem PySem.Spec PyProof.Rows
def gz:D→Option (List D)
 | .tup ds=>some ds
 | .lst ds=>some ds
 | .str l=>if l.all (· < 128) then some (l.map fun c=>.str [c]) else none
 | _=>none
end L2
namespace L2
open PySem PySem.Spec PyProof.Rows
end L2
namespace L2
open PySem PySem.Spec PyProof.Rows
end L2
namespace L2
open PySem PySem.Spec PyProof.Rows
end L2
namespace L2
open PySem PySem.Spec PyProof.Rows
section
variable {X:Cx}{pins:List (Addr×Obj)}{σ:St}{H:Hp}{s s':Shared}{x:Str}{np pos:Pos}{b₀:Stmt}{suite:List Stmt}{th:TS}{D:Ends}{e:Value}{rest:List ExceptHandler}
def tCatchN (K:PySem.W.Frag)(C0:Addr)(th:TS)(D:Ends)(σ:St):XK:=fun cls _ H'=>∃C,cls=.ref C∧PySem.W.subIn K (.ref C) (.ref C0)=some true ∧
 ∀a,H' a=none→th {nx:=fun _ _=>False,rt:=D.rt} σ (upd H' a (excAt a C))
theorem caughtN (I:Inv X pins σ H s)(hst:X.stack=X.env::X.outer)(hfr:X.env.frame=some X.env.locals)(O:Own X.K X.mg x)(hg:Gl X x)
  (hs:∀a,PSs (X.hand a) (b₀::suite) th) (hf:Flown X.prog X.w X.stack H s (tCatchN X.K O.C th D σ) e s') (hd:(x == ("__debug__" : Str))=false:=by decide) :
  wpAny (model X.prog X.w) X.A (noteFrame e X.env) (fun _ s₂=>wpAny (model X.prog X.w) X.A (setFlight e none) (fun _ s₃ =>
   wpAny (model X.prog X.w) X.A (handleBy e X.env (.ExceptHandler (some (.Name x np)) none (b₀::suite) pos::rest)) (SP X pins D) X.xe s₃) X.xe s₂) X.xe s':=by
 have hstk:frs X.stack=X.env.locals::frs X.outer:=by rw[hst];exact frs_cons hfr
 obtain⟨a,C,a0,H',B,rfl,hos,hbare,h1,h2,h3,h4,h5,h6,hok,fly,C',eC,sub,kk⟩:=hf
 cases eC
 have fly':Heap.FlyingW B (X.env::X.outer) a (.ref C) a0 s'.heap:=by rw[← hst];exact fly
 have ffr:∀b∈frs X.stack,∃o,s'.heap.get? b=some o∧∀vs,o.data≠.fields vs:=fun b hb=>(fly.2.2.1.mem hb).2
 have slots:∀{h':Heap},s'.heap.UpToSlots h'→∀b o,s.heap.get? b=some o→b∈frs X.stack→∃sl,h'.get? b=some {o with slots:=sl}:=fun {h'} u b o q hb=>by
  obtain⟨sl,e1⟩:=h2 b o q hb
  obtain⟨o2,e2,nf⟩:=ffr b hb
  rw[e1] at e2
  obtain rfl:=Option.some.inj e2
  obtain⟨sl2,e3⟩:=u b _ e1 nf
  exact⟨sl2,e3⟩
 refine wpAny_looks_onW (I.ok.frames.trans (by rw[hst])) hfr fly' fun h₄ held₄ sm₄=>?_
 refine wpAny_landsW held₄ fun h₅ fly₅ sm₅=>?_
 have sm5:=sm₄.trans sm₅
 have I5:Inv X pins σ H' {s' with heap:=h₅}:=I.call' hos (flown_un I.stkFree h1 (slots sm5) h3 h4 h5 h6 fly₅.1) (hok.kept fly₅.1) hbare (fun _ z=>nomatch z)
 obtain⟨ob,hob,hobc⟩:=fly₅.there
 refine wpAny_handleBy_cons (codeAny_handlers_test (ld_glob (X:=X.hand a) (I5.hand a) hg O.mgx ?_ hd)) (by intro q;cases q)
 refine excMatches_own I5.kIn hob hobc O.exc sub ?_
 refine codeAny_handlers_suite ?_
 refine lands_againW fly₅ fun h₆ fly₆ sm₆=>?_
 have sm6:=sm5.trans sm₆
 have hBa:B.get? a=none:=fly₆.2.1
 obtain⟨oe,vs,he6,hec,hed,_⟩:=fly₆.first
 have hnew:∀o,s.heap.get? a≠some o:=fun o q=>by
  by_cases hb:a∈frs X.stack
  ·obtain⟨_,o2,e2,nf⟩:=fly₆.2.2.1.mem (by rw[← hst];exact hb)
   rw[he6] at e2
   obtain rfl:=Option.some.inj e2
   exact nf vs hed
  ·obtain⟨o',e1,_⟩:=h1 a o q hb
   rw[hBa] at e1;cases e1
 have hHa:H' a=none:=by
  cases q:H' a with
  | none=>rfl
  | some o =>
   obtain⟨o2,e2⟩:=objThere (hok a o q)
   rw[hBa] at e2;cases e2
 have ok6:HOk X.prog X.w (upd H' a (excAt a C)) h₆:=fun b o q=>by
  by_cases hb:b=a
  ·subst hb
   rw[zX] at q
   obtain rfl:=Option.some.inj q
   exact⟨⟨oe,he6,hec⟩,⟨oe,he6⟩,fun k1 k2 ⟨o1,e1,c1⟩ kk=>⟨o1,kk o1 e1,c1⟩⟩
  ·rw[zP hb] at q
   exact(hok b o q).stay (fun c u _ e1=>fly₆.1 c u e1) (fun c e1=>by rw[zP (yt e1 hHa)];exact e1) fun c xs e1=>by rw[zP (yt e1 hHa)];exact e1
 have un6:Un (frs X.stack) [] H (upd H' a (excAt a C)) s.heap h₆:=flown_un I.stkFree h1 (slots sm6) (fun b o q nn=>by
   have hba:b≠a:=fun z=>by rw[z] at q;exact hnew o q
   rw[zP hba];exact h3 b o q nn)
  (fun b xs q=>by rw[zP (yt (h4 b xs q) hHa)];exact h4 b xs q) (fun b o u q=>by rw[zP (yt (h5 b o u q) hHa)];exact h5 b o u q)
  (fun b ps q=>by obtain⟨m,q2⟩:=h6 b ps q;exact⟨m,by rw[zP (yt q2 hHa)];exact q2⟩) fly₆.1
 have I6:Inv X pins σ (upd H' a (excAt a C)) {s' with heap:=h₆}:=I.call' hos un6 ok6 hbare (fun _ z=>nomatch z)
 refine wpAny_mono (hs a pins _ _ _ _ (I6.hand a) (kk a hHa)) (fun f s₈ h8=>?_) fun _ _ z=>False.elim z
 cases f with
 | ret u =>
  obtain⟨v,σ',H'',J,rv,q⟩:=h8
  exact⟨v,_,H'',J.unhand I.ok,rv,q⟩
 | next=>obtain⟨_,_,_,z⟩:=h8;exact False.elim z
 | brk=>obtain⟨_,_,_,z⟩:=h8;exact False.elim z
 | cont=>obtain⟨_,_,_,z⟩:=h8;exact False.elim z
theorem ps_tryN {e:Expr}{tx:St→Hp→VK→XK→Prop}{more:List ExceptHandler}{rpos hpos:Pos}(hx:PX X e tx)(O:Own X.K X.mg x)(hgx:Gl X x)(hs:∀a,PSs (X.hand a) (b₀::suite) th)
  (hst:X.stack=X.env::X.outer) (hfr:X.env.frame=some X.env.locals) (hdx:(x == ("__debug__" : Str))=false:=by decide) :
  PS X (.Try [.Return (some e) rpos] (.ExceptHandler (some (.Name x np)) none (b₀::suite) hpos::more) [] [] pos) (fun D σ H=>tx σ H D.rt (tCatchN X.K O.C th D σ)):=by
 intro pins s σ H D I h
 refine wpAny_Try_except (wpAny_execs_cons (wpAny_Return_some ?_))
 exact wpAny_mono (hx pins s σ H D.rt _ _ I (fun H2 s2 e2 s3 I2 hf=>caughtN I2 hst hfr O hgx hs hf hdx) h) (fun u s2 ⟨v,H2,I2,rv,q2⟩=>⟨v,σ,H2,I2,rv,q2⟩) fun _ _ z=>z
end
def sTryN (cs:List Nat)(ef hf:Rho→Rs D):Rho→Out:=fun ρ=>if ρ.all (fun s=>!s.own)=true then(match ef ρ with
 | .ok d=>.rt d
 | .ex n=>if n∈cs then(match hf ρ with | .ok d=>.rt d|_=>.no) else .no
 | .no=>.no) else .no
section
variable {X:Cx}{cl:Nat→Addr}{e:Expr}{pos:Pos}
theorem xs_tryN {E:XK}{xc:Str}{np rpos rp2 hpos:Pos}{cs:List Nat}{ef hf:Rho→Rs D}{hd:Expr}(hx:XX X cl e ef)(O:Own X.K X.mg xc)(hgx:Gl X xc)
  (hcs:SubsOk (fun n=>PySem.W.subIn X.K (.ref (cl n)) (.ref O.C)=some true) cs) (hh:∀a,XE (X.hand a) cl E0 hd hf) (hst:X.stack=X.env::X.outer) (hfr:X.env.frame=some X.env.locals) (hdx:(xc == ("__debug__" : Str))=false:=by decide) :
  XS X cl E (.Try [.Return (some e) rpos] [.ExceptHandler (some (.Name xc np)) none [.Return (some hd) rp2] hpos] [] [] pos) (sTryN cs ef hf):=by
 refine XS'.out ⟨_,ps_tryN hx O hgx (fun a=>pss_one (ps_ret (te:=tDE X.K cl E0 hf) (hh a))) hst hfr hdx,fun H0 F0 ρ σ H F Dn R o=>?_⟩
 unfold sTryN at o
 split at o
 ·rename_i hal
  refine⟨H,F,ρ,F,R.base hal,?_⟩
  cases e:ef ρ with
  | ok d=>rw[e] at o;exact fun v H' F' g q=>o v H' F' (R.gr.trans g) q
  | no=>rw[e] at o;exact o
  | ex n =>
   rw[e] at o
   dsimp only at o
   split at o
   ·rename_i hn
    intro H' sH
    refine⟨cl n,rfl,hcs n hn,fun a ha=>?_⟩
    have g:=Gr.exc (o:=excAt a (cl n)) R.fh sH ha
    refine⟨H0,F0,_,_,R.grow g,?_⟩
    cases e2:hf ρ with
    | ok d=>rw[e2] at o;exact fun v H2 F2 g2 q2=>o v H2 F2 ((R.gr.trans g).trans g2) q2
    | ex m=>rw[e2] at o;exact o.elim
    | no=>rw[e2] at o;exact o.elim
   ·exact o.elim
 ·exact o.elim
end
end L2
namespace L2
open PySem PySem.Spec PyProof.Rows
inductive Dz (K:PySem.W.Frag)(x:Str)(st:Stmt):Prop
 | mk {f:Addr}{oc kV dc pm cd ct:Value}{od an:Option Addr}{sl:Array (Option Value)} (a:PySem.W.nsIn K mainGlobals x=some (some (.ref f))) (l:K.lookup f=some ⟨oc,od,.func (PySem.W.fnOf x x (defArgs st) (defBody st) (zu st) .none kV dc pm an cd ct),sl⟩) (c:PySem.W.codeIn K cd x=true) (k:PySem.W.keepIn K (.ref f)=true):Dz K x st
theorem Dz.dn {K:PySem.W.Frag}{h:Heap}{mg:Str→Option Value}{x:Str}{st:Stmt}(z:Dz K x st)(X:K.In h)(G:h.Ns mainGlobals mg)(ps:List Str)(hb:∀(kV doc pm:Value) (an:Option Addr) (cdv ct:Value) (us:List Value),us.length=ps.length→bindArgs (PySem.W.fnOf x x (defArgs st) (defBody st) (zu st) .none kV doc pm an cdv ct) ⟨us,[]⟩=pure (ps.zip us)):Nonempty (Dn K mg x st ps):=by
 obtain⟨a,l,c,k⟩:=z
 exact⟨⟨_,_,fun_mk l c k,PySem.W.mg_of X G a,(fun_mk l c k).binds hb⟩⟩
inductive Oz (K:PySem.W.Frag)(x:Str):Prop
 | mk {a:Addr} (y:PySem.W.nsIn K mainGlobals x=some (some (.ref a))) (q:PySem.W.excIn K a [.type "ValueError", .type "Exception", .type "BaseException", .type "object"] "ValueError.__new__" = true):Oz K x
theorem Oz.ow {K:PySem.W.Frag}{h:Heap}{mg:Str→Option Value}{x:Str}(z:Oz K x)(X:K.In h)(G:h.Ns mainGlobals mg):Nonempty (Own K mg x):=by
 obtain⟨y,q⟩:=z
 exact⟨⟨_,PySem.W.mg_of X G y,q⟩⟩
section
variable {α:Type}{p:List α→Prop}
theorem bd0 (h:p [])(us:List α)(e:us.length=0):p us:=by obtain rfl:=List.length_eq_zero_iff.mp e;exact h
theorem bd1 (h:∀a,p [a])(us:List α)(e:us.length=1):p us:=by obtain⟨_,rfl⟩:=len1 e;exact h _
theorem bd2 (h:∀a b,p [a,b])(us:List α)(e:us.length=2):p us:=by obtain⟨_,_,rfl⟩:=len2 e;exact h _ _
theorem bd3 (h:∀a b c,p [a,b,c])(us:List α)(e:us.length=3):p us:=by obtain⟨_,_,_,rfl⟩:=len3 e;exact h _ _ _
theorem bd4 (h:∀a b c d,p [a,b,c,d])(us:List α)(e:us.length=4):p us:=by obtain⟨_,_,_,_,rfl⟩:=len4 e;exact h _ _ _ _
theorem bd5 (h:∀a b c d f,p [a,b,c,d,f])(us:List α)(e:us.length=5):p us:=by obtain⟨_,_,_,_,_,rfl⟩:=len5 e;exact h _ _ _ _ _
end
end L2
namespace L2
open PySem PySem.W PySem.Spec PyProof.Rows
def fsB (N P:List Str)(sc:Scope):Bool:=decide (sc.kind=.function) && !sc.isCoroutine && !sc.isGenerator&&decide N.Nodup&&decide (N.take P.length=P)&&P.all (fun x=>decide (sc.names.lookup x=some .local∨sc.names.lookup x=some .cell))&&sc.names.all fun y=>decide (y.2≠.free)
theorem fsc {N P:List Str}{sc:Scope}(h:fsB N P sc=true):FnScope N P sc:=by
 unfold fsB at h
 simp only[Bool.and_eq_true,decide_eq_true_eq,List.all_eq_true,Bool.not_eq_true'] at h
 exact⟨h.1.1.1.1.1.1,h.1.1.1.1.1.2,h.1.1.1.1.2,h.1.1.1.2,h.1.1.2,h.1.2,h.2⟩
section
variable {X:Cx}{cl:Nat→Addr}{E:XK}{x:Str}{p pos:Pos}{e:Expr}{es:List Expr}{fs:Rho→Rs (List D)}{k k' n:Nat}{st:Stmt}{ps:List Str}{d:Dn X.K X.mg x st ps}{fn:List D→Rs D}
theorem zx (G:FnOk X.prog X.w X.K X.mg X.base (CX1 X.prog X.w) k d.f d.fd ps (spD X.K cl fn n))(hr:Room k' X.A)(hx:Passes (CX1 X.prog X.w) X E)(ha:XA X cl E (e::es) fs)(he:starEach (e::es) X.env=(false,eval e X.env)::starEach es X.env)(hk:k≤k':=by decide)(hg:Gl X x:=by rfl)(hdb:(x == ("__debug__" : Str))=false:=by decide)(hpl:(backTo pos (starEach es X.env)).any (·.1)=false:=by rfl):XE X cl E (.Call (.Name x p) (e::es) [] pos) (fA (ari n fn) fs) :=
 xe_call G (hr.mono hk) hg d.mg d.fn.kp d.bd hx ha he hdb hpl
theorem xx_callD (G:FnOk X.prog X.w X.K X.mg X.base (CX1 X.prog X.w) k d.f d.fd ps (spD X.K cl fn n))(hr:Room k' X.A)(ha:XA X.nox cl E0 (e::es) fs)(he:starEach (e::es) X.env=(false,eval e X.env)::starEach es X.env)(hk:k≤k':=by decide)(hg:Gl X x:=by rfl)(hdb:(x == ("__debug__" : Str))=false:=by decide)(hpl:(backTo pos (starEach es X.env)).any (·.1)=false:=by rfl):XX X cl (.Call (.Name x p) (e::es) [] pos) (fA (ari n fn) (cutA fs)) :=
 xx_call G (hr.mono hk) hg d.mg d.fn.kp d.bd ha he hdb hpl
end
noncomputable def Dz.D {K:PySem.W.Frag}{h:Heap}{mg:Str→Option Value}{x:Str}{st:Stmt}{ps:List Str}(z:Dz K x st)(X:K.In h)(G:h.Ns mainGlobals mg)(hb:∀(kV doc pm:Value) (an:Option Addr) (cdv ct:Value) (us:List Value),us.length=ps.length→bindArgs (PySem.W.fnOf x x (defArgs st) (defBody st) (zu st) .none kV doc pm an cdv ct) ⟨us,[]⟩=pure (ps.zip us):=by first|exact fun _ _ _ _ _ _=>bd2 fun _ _=>rfl|exact fun _ _ _ _ _ _=>bd1 fun _=>rfl|exact fun _ _ _ _ _ _=>bd3 fun _ _ _=>rfl|exact fun _ _ _ _ _ _=>bd4 fun _ _ _ _=>rfl|exact fun _ _ _ _ _ _=>bd0 rfl|exact fun _ _ _ _ _ _=>bd5 fun _ _ _ _ _=>rfl):Dn K mg x st ps:=Classical.choice (z.dn X G ps hb)
theorem fnDD {P:Program}{w:World}{K:PySem.W.Frag}{mg:Str→Option Value}{base:Heap}{x:Str}{st:Stmt}{N ps:List Str}(m n k:Nat)(g:Rho→Out)(cl:Nat→Addr)(d:Dn K mg x st ps)(S:FnScope N ps (zu st))
  (hb:∀(cdv:Value) (A:Around) (outer:List Env) (s:Shared) (H:Hp) (E:XK),Room k (A.deeper (envOfC x (zu st) s.heap.objs.size d.f cdv))→XSs (cxOf (CX1 P w) P w K mg base N x (zu st) d.f cdv A outer s H E) cl E (defBody st) g) (hm:N.length=m:=by rfl) (hn:ps.length=n:=by rfl):FnOk P w K mg base (CX1 P w) (k+1) d.f d.fd ps (spD K cl (yj m g) n) :=
 fnD (N:=N) (ps:=ps) (k:=k) (m:=m) (n:=n) (g:=g) (cl:=cl) d.fn S hm hn hb
theorem xv {X:Cx}{cl:Nat→Addr}{E:XK}(i:Nat){x:Str}{pos:Pos}(hN:X.N[i]? = some x:=by rfl)(hv:Vis X.env.scope x:=by first|exact Or.inl rfl|exact Or.inr (Or.inl rfl)|exact Or.inr (Or.inr rfl))(hd:(x == ("__debug__" : Str))=false:=by decide)(hcd:(x == ("__classdict__" : Str))=false:=by decide):XE X cl E (.Name x pos) (fNm i):=xe_nm i (pv i hN hv hd hcd)
theorem yr {X:Cx}{cl:Nat→Addr}{E:XK}{x:Str}{j pos}(l:List Nat)(h:(decide (x=T l)&&l.all (fun c=>decide (c<0x110000))&&decide (l.length≤1000000))=true):XE X cl E (.Constant (.str x) j pos) (fC (.str l)):=by
 simp only[Bool.and_eq_true,decide_eq_true_eq,List.all_eq_true] at h
 exact xe_str h.1.1 (T_ok h.1.2 h.2)
end L2
set_option maxHeartbeats 4000000
namespace Pg
open PySem L2 PyProof.Rows
def g__law_cell:Rho→Out :=
  (zQ (sIf (bT (f2 (eqD false) (fNm 0) (fO mkL zE)))
  (yI (f2 mulI (fC (.int 7)) (fNm 1)))
  sNx)
  (yI (f2 addI (f2 ixD (fNm 0) (f2 modI (fNm 1) (fO lenD (zj (fNm 0) zE)))) (f2 mulI (fC (.int 6553)) (f2 fdivI (fNm 1) (fO lenD (zj (fNm 0) zE)))))))
def fn__law_cell:List D→Rs D:=yj 2 g__law_cell
def g__law_drawn:Rho→Out :=
  (zQ (yM 3 (f2 modI (f2 addI (f2 mulI (f2 modI (fA (ari 2 fn__law_cell) (zj (fNm 0) (zj (fNm 1) zE))) (fC (.int 2147483563))) (fC (.int 69069))) (f2 mulI (fC (.int 104723)) (f2 addI (fNm 1) (fC (.int 1))))) (fC (.int 2147483563))))
  (zQ (yM 3 (f2 modI (f2 addI (f2 mulI (fNm 3) (fNm 3)) (f2 fdivI (fNm 3) (fC (.int 3)))) (fC (.int 2147483399))))
  (yI (f2 modI (f2 fdivI (f2 modI (f2 addI (f2 mulI (fNm 3) (fNm 3)) (f2 fdivI (fNm 3) (fC (.int 7)))) (fC (.int 2147483647))) (fC (.int 11))) (fNm 2)))))
def zZ:List D→Rs D:=yj 4 g__law_drawn
def g__law_book:Rho→Out :=
  (zQ (sSetO 4 (fCp (fR rng1 (zj (fNm 2) zE)) bTrue (f2 ixD (fC (.str [97,98,99,100])) (fNm 0)) []))
  (zQ (cutX (sFor 5 (fR rng1 (zj (fNm 3) zE))
  (zQ (sPop 4 6 (fFl 4 (fA (ari 3 zZ) (zj (fNm 0) (zj (f2 addI (fNm 1) (fNm 5)) (zj (fO lenD (zj (fNm 4) zE)) zE))))))
  (sIce 4 (sSetO 4 (fL sortD (zj (fLs (fL2 catD (fNm 4) (xJ (fR rng1 (zj (fNm 2) zE)) bTrue (f2 addS (fNm 1) (f2 ixD (fC (.str [97,98,99,100])) (fNm 0))) [6]))) zE)))))))
  (sIce 4 (yI (fO tupD (zj (fNm 4) zE))))))
def fn__law_book:List D→Rs D:=yj 7 g__law_book
def g_is_rising:Rho→Out :=
  (yI (fO allD (zj (fLs (fCz (fNm 0) (fSl (fNm 0) (yq (fC (.int 1))) yR) bTrue (f2 ltS (fNm 0) (fNm 1)) [])) zE)))
def fn_is_rising:List D→Rs D:=yj 1 g_is_rising
def g_is_whole:Rho→Out :=
  (yI (fAnd (f1 (isiD isInt) (fNm 0)) (fNot (f1 (isiD isBool) (fNm 0)))))
def fn_is_whole:List D→Rs D:=yj 1 g_is_whole
def g_is_between:Rho→Out :=
  (yI (fAnd (fA (ari 1 fn_is_whole) (zj (fNm 0) zE)) (fCh leI leI (fNm 1) (fNm 0) (fNm 2))))
def xH:List D→Rs D:=yj 3 g_is_between
def yo:Rho→Out :=
  (yI (fA (ari 3 xH) (zj (fNm 0) (zj (fC (.int 2)) (zj (fO lenD (zj (fC (.str [97,98,99,100])) zE)) zE)))))
def ye:List D→Rs D:=yj 1 yo
def g_is_text_of:Rho→Out :=
  (zQ (yM 2 (fSl (fC (.str [97,98,99,100])) yR (yq (fNm 0))))
  (yI (fAnd (f1 (isiD isStr) (fNm 1)) (fO allD (zj (xJ (fI sgD (fNm 1)) bTrue (f2 (inC false) (fNm 0) (fNm 1)) [2]) zE)))))
def fn_is_text_of:List D→Rs D:=yj 3 g_is_text_of
def g_are_pieces:Rho→Out :=
  (zQ (sIf (bOr (bNot (bT (fA (ari 1 ye) (zj (fNm 0) zE)))) (bNot (bT (f1 (isiD isTup) (fNm 1)))))
  (yI (fC (.bl false)))
  sNx)
  (zQ (sIf (bNot (bT (fCh leI leI (fC (.int 1)) (fO lenD (zj (fNm 1) zE)) (fC (.int 32)))))
  (yI (fC (.bl false)))
  sNx)
  (zQ (sIf (bNot (bT (fO allD (zj (xJ (fI tpD (fNm 1)) bTrue (fAnd (fA (ari 2 fn_is_text_of) (zj (fNm 1) (zj (fNm 0) zE))) (f2 (eqD true) (fNm 0) (fC (.str [])))) [0]) zE))))
  (yI (fC (.bl false)))
  sNx)
  (yI (fA (ari 1 fn_is_rising) (zj (fNm 1) zE))))))
def fn_are_pieces:List D→Rs D:=yj 2 g_are_pieces
def yP:Rho→Out :=
  (zQ (cutX (sForZ 1 2 (fNm 0) (fSl (fNm 0) (yq (fC (.int 1))) yR)
  (sIf (bT (fM isS yJ (fNm 2) (fNm 1)))
  (yI (fO mkT (zj (fNm 1) (zj (fNm 2) zE))))
  sNx)))
  (yI (fC .non)))
def yD:List D→Rs D:=yj 3 yP
def g_gone_on:Rho→Out :=
  (zQ (sSetO 2 (fL szL zE))
  (zQ (cutX (sFor 3 (fI lsD (fNm 1))
  (sFor 4 (fI sgD (fSl (fC (.str [97,98,99,100])) yR (yq (fNm 0))))
  (sApp 2 (f2 addS (fNm 3) (fNm 4))))))
  (sIce 2 (yI (fNm 2)))))
def yG:List D→Rs D:=yj 5 g_gone_on
def g_is_apart:Rho→Out :=
  (yI (fNot (fO anyD (zj (xJ (fI tpD (fNm 0)) bTrue (fOr (fM isS yJ (fNm 0) (fNm 1)) (fM isS yJ (fNm 1) (fNm 0))) [1]) zE))))
def zT:List D→Rs D:=yj 2 g_is_apart
def g_is_inner:Rho→Out :=
  (yI (fO anyD (zj (xJ (fI tpD (fNm 0)) bTrue (fAnd (fM isS yJ (fNm 0) (fNm 1)) (f2 (eqD true) (fNm 0) (fNm 1))) [1]) zE)))
def zU:List D→Rs D:=yj 2 g_is_inner
def xM:Rho→Out :=
  (zQ (yM 2 (fO mkL (zj (fC (.str [])) zE)))
  (zQ (cutX (sWh 2000 (bT (f2 (eqD true) (fNm 2) (fO mkL zE)))
  (zQ (yM 3 (fA (ari 2 yG) (zj (fNm 0) (zj (fNm 2) zE))))
  (zQ (sFor 4 (fI lsD (fNm 3))
  (sIf (bT (fA (ari 2 zT) (zj (fNm 1) (zj (fNm 4) zE))))
  (yI (fNm 4))
  sNx))
  (sSetA 2 (fCp (fI lsD (fNm 3)) (bT (fA (ari 2 zU) (zj (fNm 1) (zj (fNm 0) zE)))) (fNm 0) [1]))))))
  (yI (fC .non))))
def yC:List D→Rs D:=yj 5 xM
def g_first_paper:Rho→Out :=
  (zQ (yM 2 (fA (ari 1 yD) (zj (fNm 1) zE)))
  (zQ (sIf (bT (f1 (isN true) (fNm 2)))
  (yI (fNm 2))
  sNx)
  (yI (fA (ari 2 yC) (zj (fNm 0) (zj (fNm 1) zE))))))
def fn_first_paper:List D→Rs D:=yj 3 g_first_paper
def g_is_book:Rho→Out :=
  (yI (fAnd (fA (ari 2 fn_are_pieces) (zj (fNm 0) (zj (fNm 1) zE))) (f1 (isN false) (fA (ari 2 fn_first_paper) (zj (fNm 0) (zj (fNm 1) zE))))))
def fn_is_book:List D→Rs D:=yj 2 g_is_book
def g_require_book:Rho→Out :=
  (sIf (bNot (bT (fA (ari 2 fn_is_book) (zj (fNm 0) (zj (fNm 1) zE)))))
  (sRs 1 (zj (fC (.str [116,104,105,115,32,105,115,32,110,111,32,98,111,111,107,32,111,102,32,115,111,32,109,97,110,121,32,108,101,116,116,101,114,115])) zE))
  sNx)
def yx:List D→Rs D:=yj 2 g_require_book
def g_bits_for:Rho→Out :=
  (zQ (yM 1 (fC (.int 0)))
  (zQ (yM 2 (fC (.int 1)))
  (zQ (cutX (sWh 64 (bT (f2 ltI (fNm 2) (fNm 0)))
  (zQ (yM 1 (f2 addI (fNm 1) (fC (.int 1))))
  (yM 2 (f2 mulI (fNm 2) (fC (.int 2)))))))
  (yI (fNm 1)))))
def fn_bits_for:List D→Rs D:=yj 3 g_bits_for
def g_word_for:Rho→Out :=
  (zQ (yM 2 (fC (.str [])))
  (zQ (cutX (sFor 3 (fR rng1 (zj (fNm 1) zE))
  (zQ (yM 2 (f2 addS (fO strD (zj (f2 modI (fNm 0) (fC (.int 2))) zE)) (fNm 2)))
  (yM 0 (f2 fdivI (fNm 0) (fC (.int 2)))))))
  (yI (fNm 2))))
def fn_word_for:List D→Rs D:=yj 4 g_word_for
def g_words_of:Rho→Out :=
  (zQ (yM 1 (fA (ari 1 fn_bits_for) (zj (fO lenD (zj (fNm 0) zE)) zE)))
  (yI (xJ (fR rng1 (zj (fO lenD (zj (fNm 0) zE)) zE)) bTrue (fA (ari 2 fn_word_for) (zj (fNm 0) (zj (fNm 1) zE))) [1])))
def yZ:List D→Rs D:=yj 2 g_words_of
def g_require_piece:Rho→Out :=
  (sIf (bT (f2 (inD true) (fNm 1) (fNm 0)))
  (sRs 2 (zj (fC (.str [116,104,105,115,32,105,115,32,110,111,32,112,105,101,99,101,32,111,102,32,116,104,101,32,98,111,111,107])) zE))
  sNx)
def fn_require_piece:List D→Rs D:=yj 2 g_require_piece
def g_word_of:Rho→Out :=
  (zQ (sDrop (fA (ari 2 yx) (zj (fNm 0) (zj (fNm 1) zE))))
  (zQ (sDrop (fA (ari 2 fn_require_piece) (zj (fNm 1) (zj (fNm 2) zE))))
  (yI (f2 ixD (fA (ari 1 yZ) (zj (fNm 1) zE)) (fM isTp idxD (fNm 1) (fNm 2))))))
def yF:List D→Rs D:=yj 3 g_word_of
def g_whole_words:Rho→Out :=
  (zQ (yM 2 (fA (ari 1 fn_bits_for) (zj (fO lenD (zj (fNm 0) zE)) zE)))
  (zQ (sIf (bOr (bNot (bT (f1 (isiD isStr) (fNm 1)))) (bT (f2 (eqD true) (f2 modI (fO lenD (zj (fNm 1) zE)) (fNm 2)) (fC (.int 0)))))
  (sRs 4 (zj (fC (.str [116,104,101,115,101,32,97,114,101,32,110,111,32,119,104,111,108,101,32,119,111,114,100,115])) zE))
  sNx)
  (yI (xJ (fR rng3 (zj (fC (.int 0)) (zj (fO lenD (zj (fNm 1) zE)) (zj (fNm 2) zE)))) bTrue (fSl (fNm 1) (yq (fNm 0)) (yq (f2 addI (fNm 0) (fNm 2)))) [1,2]))))
def fn_whole_words:List D→Rs D:=yj 3 g_whole_words
def yN:Rho→Out :=
  (zQ (yM 2 (f2 zipDD (fA (ari 1 yZ) (zj (fNm 0) zE)) (fNm 0)))
  (zQ (cutX (sFor 3 (fI lsD (fNm 1))
  (sIf (bT (f2 (hasD true) (fNm 3) (fNm 2)))
  (fun _=>.no)
  sNx)))
  (yI (fM isS joinD (fC (.str [])) (xJ (fI lsD (fNm 1)) bTrue (f2 getD (fNm 1) (fNm 0)) [2])))))
def zK:List D→Rs D:=yj 4 yN
def g_from_word:Rho→Out :=
  (zQ (sDrop (fA (ari 2 yx) (zj (fNm 0) (zj (fNm 1) zE))))
  (zQ (yM 4 (fA (ari 2 fn_whole_words) (zj (fNm 1) (zj (fNm 2) zE))))
  (yI (fA (ari 2 zK) (zj (fNm 1) (zj (fSl (fNm 4) (yq (fO maxD (zj (fNm 3) (zj (fC (.int 0)) zE)))) yR) zE))))))
def xj:List D→Rs D:=yj 5 g_from_word
def g_back:Rho→Out :=
  (yI (fA (ari 4 xj) (zj (fNm 0) (zj (fNm 1) (zj (fNm 2) (zj (fC (.int 0)) zE))))))
def yX:List D→Rs D:=yj 3 g_back
def g_piece_of:Rho→Out :=
  (zQ (sDrop (fA (ari 2 yx) (zj (fNm 0) (zj (fNm 1) zE))))
  (zQ (yM 3 (fA (ari 1 yZ) (zj (fNm 1) zE)))
  (zQ (sIf (bT (f2 (inD true) (fNm 2) (fNm 3)))
  (sRs 4 (zj (fC (.str [116,104,105,115,32,105,115,32,110,111,32,119,111,114,100,32,111,102,32,97,32,112,105,101,99,101])) zE))
  sNx)
  (yI (f2 ixD (fNm 1) (fM isLs idxD (fNm 3) (fNm 2)))))))
def fn_piece_of:List D→Rs D:=yj 4 g_piece_of
end Pg
set_option maxHeartbeats 1000000
namespace L2
open PySem
section
variable {ft:Rho→Rs Bool}{fe:Rho→Rs D}{ρ0 ρ:Rho}{α β:Type}{i j:Nat}{g:Rho→Out}
theorem compD_of {l:List α}{enc:α→D}(p:α→Bool)(e:α→D)(h:∀x∈l,ft (ρ0.set 0 (.fz (enc x)))=.ok (p x)∧(p x=true→fe (ρ0.set 0 (.fz (enc x)))=.ok (e x))):compD ft fe ρ0 (l.map enc)=.ok ((l.filter p).map e):=by
 induction l with
 | nil=>rfl
 | cons x l ih =>
  have ih':=ih fun y hy=>h y (.tail _ hy)
  obtain⟨h1,h2⟩:=h x (.head _)
  rw[List.map_cons]
  unfold compD
  rw[h1]
  cases hp:p x with
  | false=>rw[List.filter_cons_of_neg (by simp[hp])];exact ih'
  | true =>
   rw[List.filter_cons_of_pos hp]
   simp only[h2 hp,ih']
   rfl
theorem yQ {l:List α}{enc:α→D}(e:α→D)(h:∀x∈l,fe (ρ0.set 0 (.fz (enc x)))=.ok (e x)):compD bTrue fe ρ0 (l.map enc)=.ok (l.map e):=by
 have:=compD_of (ft:=bTrue) (fe:=fe) (ρ0:=ρ0) (l:=l) (enc:=enc) (fun _=>true) e fun x hx=>⟨rfl,fun _=>h x hx⟩
 rwa [List.filter_eq_self.mpr fun _ _=>rfl] at this
theorem compZ_map {l:List (α×β)}{enc:α→D}{enb:β→D}(e:α×β→D)(h:∀x∈l,fe ((ρ0.set 0 (.fz (enc x.1))).set 1 (.fz (enb x.2)))=.ok (e x)):compZ bTrue fe ρ0 (l.map fun x=>enc x.1) (l.map fun x=>enb x.2)=.ok (l.map e):=by
 induction l with
 | nil=>rfl
 | cons x l ih =>
  have ih':=ih fun y hy=>h y (.tail _ hy)
  rw[List.map_cons,List.map_cons]
  unfold compZ
  simp only[bTrue,h x (.head _)]
  rw[ih'];rfl
theorem compZ_zip:∀(as bs:List D),compZ ft fe ρ0 as bs=compZ ft fe ρ0 ((as.zip bs).map (·.1)) ((as.zip bs).map (·.2))
 | [],_=>by simp[compZ]
 | _::_,[]=>by simp[compZ]
 | a::as,b::bs=>by
  rw[List.zip_cons_cons,List.map_cons,List.map_cons]
  unfold compZ
  rw[compZ_zip as bs]
theorem forZ_zip:∀(as bs:List D) (ρ:Rho),forZ i j g as bs ρ=forZ i j g ((as.zip bs).map (·.1)) ((as.zip bs).map (·.2)) ρ
 | [],_,ρ=>by simp[forZ]
 | _::_,[],ρ=>by simp[forZ]
 | a::as,b::bs,ρ=>by
  rw[List.zip_cons_cons,List.map_cons,List.map_cons,forZ.eq_1,forZ.eq_1]
  dsimp only
  cases g ((ρ.set i (.fz a)).set j (.fz b)) <;>first|rfl|exact forZ_zip as bs _
theorem forD_inv {l:List α}{enc:α→D}(I:Nat→Rho→Prop)(h0:I 0 ρ)(hs:∀k x ρ,l[k]? = some x→I k ρ→∃ρ',g (ρ.set i (.fz (enc x)))=.nx ρ'∧I (k+1) ρ'):∃ρ',forD i g (l.map enc) ρ=.nx ρ'∧I l.length ρ':=by
 induction l generalizing ρ I with
 | nil=>exact⟨ρ,rfl,h0⟩
 | cons x l ih =>
  obtain⟨ρ1,e1,i1⟩:=hs 0 x ρ rfl h0
  obtain⟨ρ2,e2,i2⟩:=ih (I:=fun k=>I (k+1)) i1 fun k y ρ hy hI=>hs (k+1) y ρ (by simpa using hy) hI
  refine⟨ρ2,?_,i2⟩
  rw[List.map_cons]
  unfold forD
  rw[e1];exact e2
theorem forD_find {l:List α}{enc:α→D}(I:Rho→Prop)(p:α→Bool)(r:α→D)(h0:I ρ)(hs:∀x∈l,∀ρ,I ρ→if p x=true then g (ρ.set i (.fz (enc x)))=.rt (r x) else ∃ρ',g (ρ.set i (.fz (enc x)))=.nx ρ'∧I ρ') :
  match l.find? p with|some x=>forD i g (l.map enc) ρ=.rt (r x)|none=>∃ρ',forD i g (l.map enc) ρ=.nx ρ'∧I ρ':=by
 induction l generalizing ρ with
 | nil=>exact⟨ρ,rfl,h0⟩
 | cons x l ih =>
  have hx:=hs x (.head _) ρ h0
  cases hp:p x with
  | true =>
   rw[if_pos hp] at hx
   rw[List.find?_cons_of_pos hp]
   show forD i g (enc x::l.map enc) ρ=_
   unfold forD
   rw[hx]
  | false =>
   rw[if_neg (by simp[hp])] at hx
   obtain⟨ρ1,e1,i1⟩:=hx
   rw[List.find?_cons_of_neg (by simp[hp])]
   have:=ih i1 fun y hy=>hs y (.tail _ hy)
   have e:forD i g ((x::l).map enc) ρ=forD i g (l.map enc) ρ1:=by
    show forD i g (enc x::l.map enc) ρ=_
    rw[forD.eq_2,e1]
   rw[e];exact this
theorem forZ_find {l:List (α×β)}{enc:α→D}{enb:β→D}(I:Rho→Prop)(p:α×β→Bool)(r:α×β→D)(h0:I ρ)(hs:∀x∈l,∀ρ,I ρ→if p x=true then g ((ρ.set i (.fz (enc x.1))).set j (.fz (enb x.2)))=.rt (r x) else ∃ρ',g ((ρ.set i (.fz (enc x.1))).set j (.fz (enb x.2)))=.nx ρ'∧I ρ') :
  match l.find? p with|some x=>forZ i j g (l.map fun x=>enc x.1) (l.map fun x=>enb x.2) ρ=.rt (r x)|none=>∃ρ',forZ i j g (l.map fun x=>enc x.1) (l.map fun x=>enb x.2) ρ=.nx ρ'∧I ρ':=by
 induction l generalizing ρ with
 | nil=>exact⟨ρ,by simp[forZ],h0⟩
 | cons x l ih =>
  have hx:=hs x (.head _) ρ h0
  cases hp:p x with
  | true =>
   rw[if_pos hp] at hx
   rw[List.find?_cons_of_pos hp]
   show forZ i j g (enc x.1::l.map fun x=>enc x.1) (enb x.2::l.map fun x=>enb x.2) ρ=_
   unfold forZ
   rw[hx]
  | false =>
   rw[if_neg (by simp[hp])] at hx
   obtain⟨ρ1,e1,i1⟩:=hx
   rw[List.find?_cons_of_neg (by simp[hp])]
   have:=ih i1 fun y hy=>hs y (.tail _ hy)
   have e:forZ i j g ((x::l).map fun x=>enc x.1) ((x::l).map fun x=>enb x.2) ρ=forZ i j g (l.map fun x=>enc x.1) (l.map fun x=>enb x.2) ρ1:=by
    show forZ i j g (enc x.1::l.map fun x=>enc x.1) (enb x.2::l.map fun x=>enb x.2) ρ=_
    rw[forZ.eq_1,e1]
   rw[e];exact this
end
theorem zV {m:Nat}{g:Rho→Out}{ds:List D}{d:D}(h:g (ds.map .fz++List.replicate (m - ds.length) .no)=.rt d):yj m g ds=.ok d:=by unfold yj;rw[h]
theorem runD_nx {m:Nat}{g:Rho→Out}{ds:List D}{ρ:Rho}(h:g (ds.map .fz++List.replicate (m - ds.length) .no)=.nx ρ):yj m g ds=.ok .non:=by unfold yj;rw[h]
theorem runD_ex {m:Nat}{g:Rho→Out}{ds:List D}{n:Nat}(h:g (ds.map .fz++List.replicate (m - ds.length) .no)=.ex n):yj m g ds=.ex n:=by unfold yj;rw[h]
theorem zA {g h:Rho→Out}{ρ ρ':Rho}(e:g ρ=.nx ρ'):zQ g h ρ=h ρ':=by unfold zQ;rw[e]
theorem sSeq_rt {g h:Rho→Out}{ρ:Rho}{d:D}(e:g ρ=.rt d):zQ g h ρ=.rt d:=by unfold zQ;rw[e]
theorem cutX_nx {g:Rho→Out}{ρ ρ':Rho}(e:g ρ=.nx ρ'):cutX g ρ=.nx ρ':=by unfold cutX;rw[e]
theorem cutX_rt {g:Rho→Out}{ρ:Rho}{d:D}(e:g ρ=.rt d):cutX g ρ=.rt d:=by unfold cutX;rw[e]
theorem sFor_ok {i:Nat}{fi:Rho→Rs (List D)}{g:Rho→Out}{ρ:Rho}{ds:List D}(e:fi ρ=.ok ds):sFor i fi g ρ=forD i g ds ρ:=by unfold sFor;rw[e]
theorem sIf_t {ft:Rho→Rs Bool}{g h:Rho→Out}{ρ:Rho}(e:ft ρ=.ok true):sIf ft g h ρ=g ρ:=by unfold sIf;rw[e]
theorem sIf_f {ft:Rho→Rs Bool}{g h:Rho→Out}{ρ:Rho}(e:ft ρ=.ok false):sIf ft g h ρ=h ρ:=by unfold sIf;rw[e]
theorem zF {i:Nat}{f:Rho→Rs D}{ρ:Rho}{d:D}(e:f ρ=.ok d):yM i f ρ=.nx (ρ.set i (.fz d)):=by unfold yM;rw[e]
theorem yE {f:Rho→Rs D}{ρ:Rho}{d:D}(e:f ρ=.ok d):yI f ρ=.rt d:=by unfold yI;rw[e]
theorem sApp_ok {i:Nat}{f:Rho→Rs D}{ρ:Rho}{ds:List D}{d:D}(e:owL ρ i=some ds)(e2:f ρ=.ok d)(hl:ds.length<1000000):sApp i f ρ=.nx (ρ.set i (.ow (ds++[d]))):=by unfold sApp;simp only[e,e2,if_pos hl]
theorem addS_ok {l m:List Nat}(h:l.length+m.length≤1000000):addS (.str l) (.str m)=some (.str (l++m)):=if_pos h
theorem zR {g:D→D→Option D}{fa fb:Rho→Rs D}{ρ:Rho}{a b d:D}(e1:fa ρ=.ok a)(e2:fb ρ=.ok b)(e3:g a b=some d):f2 g fa fb ρ=.ok d:=by unfold f2;rw[e1];show(fb ρ).bind _=_;rw[e2];show lf (g a b)=_;rw[e3];rfl
theorem rng1_nat {n:Nat}(h:n≤1000000):rng1 [.int (n:Int)]=some ((List.range n).map fun(k:Nat)=>.int (k:Int)):=by
 have h1:-(2 ^ 62)≤(n:Int)∧(n:Int)<2 ^ 62:=by omega
 dsimp only [rng1]
 rw[if_pos h1,Int.toNat_natCast]
theorem fR_ok {g:List D→Option (List D)}{fs:Rho→Rs (List D)}{ρ:Rho}{ds es:List D}(e1:fs ρ=.ok ds)(e2:g ds=some es):fR g fs ρ=.ok es:=by unfold fR;rw[e1];show(match g ds with|some es=>Rs.ok es|none=>.no)=_;rw[e2]
theorem fO_ok {g:List D→Option D}{fs:Rho→Rs (List D)}{ρ:Rho}{ds:List D}{d:D}(e1:fs ρ=.ok ds)(e2:g ds=some d):fO g fs ρ=.ok d:=by unfold fO;rw[e1];show lf (g ds)=_;rw[e2];rfl
theorem addI_ok {f g:Rho→Rs D}{ρ:Rho}{i j:Int}(e1:f ρ=.ok (.int i))(e2:g ρ=.ok (.int j)):f2 addI f g ρ=.ok (.int (i+j)):=zR e1 e2 rfl
theorem subI_ok {f g:Rho→Rs D}{ρ:Rho}{i j:Int}(e1:f ρ=.ok (.int i))(e2:g ρ=.ok (.int j)):f2 subI f g ρ=.ok (.int (i - j)):=zR e1 e2 rfl
theorem mulI_ok {f g:Rho→Rs D}{ρ:Rho}{i j:Int}(e1:f ρ=.ok (.int i))(e2:g ρ=.ok (.int j))(h1:Sm i)(h2:Sm j):f2 mulI f g ρ=.ok (.int (i*j)):=zR e1 e2 (if_pos ⟨h1,h2⟩)
theorem modI_ok {f g:Rho→Rs D}{ρ:Rho}{i j:Int}(e1:f ρ=.ok (.int i))(e2:g ρ=.ok (.int j))(h:0<j):f2 modI f g ρ=.ok (.int (i % j)):=zR e1 e2 (if_pos h)
theorem fdivI_ok {f g:Rho→Rs D}{ρ:Rho}{i j:Int}(e1:f ρ=.ok (.int i))(e2:g ρ=.ok (.int j))(h:0<j)(h2:Sm j):f2 fdivI f g ρ=.ok (.int (i / j)):=zR e1 e2 (if_pos ⟨h,h2⟩)
theorem sm_of {i:Int}(h:-(2 ^ 100)<i∧i<2 ^ 100):Sm i:=by
 unfold Sm
 have h1:(2:Nat) ^ 100≤2 ^ 4000:=Nat.pow_le_pow_right (by decide) (by decide)
 have h2:i.natAbs<2 ^ 100:=by omega
 exact Nat.lt_of_lt_of_le h2 h1
theorem fCp_ok {fi:Rho→Rs (List D)}{ft:Rho→Rs Bool}{fe:Rho→Rs D}{caps:List Nat}{ρ:Rho}{ds es:List D}(e1:fi ρ=.ok ds)(hl:ds.length≤1000000)(e2:compD ft fe (capR 1 caps ρ) ds=.ok es):fCp fi ft fe caps ρ=.ok es:=by unfold fCp;rw[e1];show(if ds.length≤1000000 then compD ft fe (capR 1 caps ρ) ds else .no)=_;rw[if_pos hl,e2]
theorem fComp_ok {fi:Rho→Rs (List D)}{ft:Rho→Rs Bool}{fe:Rho→Rs D}{caps:List Nat}{ρ:Rho}{ds es:List D}(e1:fi ρ=.ok ds)(hl:ds.length≤1000000)(e2:compD ft fe (capR 1 caps ρ) ds=.ok es):xJ fi ft fe caps ρ=.ok (.lst es):=by unfold xJ;rw[fCp_ok e1 hl e2];rfl
theorem sSetO_ok {i:Nat}{f:Rho→Rs (List D)}{ρ:Rho}{d:List D}(e:f ρ=.ok d):sSetO i f ρ=.nx (ρ.set i (.ow d)):=by unfold sSetO;rw[e]
theorem sSetA_ok {i:Nat}{f:Rho→Rs (List D)}{ρ:Rho}{d:List D}(e:f ρ=.ok d):sSetA i f ρ=.nx (ρ.set i (.fz (.lst d))):=by unfold sSetA;rw[e]
theorem fLs_ok {f:Rho→Rs (List D)}{ρ:Rho}{d:List D}(e:f ρ=.ok d):fLs f ρ=.ok (.lst d):=by unfold fLs;rw[e];rfl
theorem fM_ok {chk:D→Bool}{g:D→D→Option D}{fa fb:Rho→Rs D}{ρ:Rho}{a b d:D}(e1:fa ρ=.ok a)(hc:chk a=true)(e2:fb ρ=.ok b)(e3:g a b=some d):fM chk g fa fb ρ=.ok d:=by unfold fM;rw[e1];show(if chk a=true then _ else _)=_;rw[if_pos hc,e2];show lf (g a b)=_;rw[e3];rfl
theorem sPop_ok {i j:Nat}{f:Rho→Rs D}{ρ:Rho}{ds:List D}{k:Nat}{d:D}(e:owL ρ i=some ds)(e1:f ρ=.ok (.int (k:Int)))(hk:k<1000000)(e2:ds[k]? = some d):sPop i j f ρ=.nx ((ρ.set i (.ow (ds.eraseIdx k))).set j (.fz d)):=by
 unfold sPop
 have h:(0:Int)≤(k:Int)∧(k:Int)<1000000:=by omega
 simp only[e,e1,if_pos h,Int.toNat_natCast,e2]
theorem fFl_ok {i:Nat}{f:Rho→Rs D}{ρ:Rho}{ds:List D}{d:D}(e:owL ρ i=some ds)(e1:f (ρ.set i (.fz (.lst ds)))=.ok d)(h:d.fl=true):fFl i f ρ=.ok d:=by unfold fFl;simp only[e,e1,if_pos h]
theorem sIce_ok {i:Nat}{g:Rho→Out}{ρ:Rho}{ds:List D}(e:ρ[i]? = some (.ow ds)):sIce i g ρ=g (ρ.set i (.fz (.lst ds))):=by unfold sIce;rw[e]
theorem fL_ok {g:List D→Option (List D)}{fs:Rho→Rs (List D)}{ρ:Rho}{ds es:List D}(e1:fs ρ=.ok ds)(e2:g ds=some es):fL g fs ρ=.ok es:=by unfold fL;rw[e1];show lf' (g ds)=_;rw[e2];rfl
theorem zJ {fa:Rho→Rs D}{fs:Rho→Rs (List D)}{ρ:Rho}{a:D}{as:List D}(e1:fa ρ=.ok a)(e2:fs ρ=.ok as):zj fa fs ρ=.ok (a::as):=by unfold zj;rw[e1];show(fs ρ).bind _=_;rw[e2];rfl
theorem erase_map {α β:Type}(f:α→β):∀(l:List α) (k:Nat),(l.map f).eraseIdx k=(l.eraseIdx k).map f
 | [],_=>rfl
 | _::_,0=>rfl
 | a::l,k+1=>by show f a::(l.map f).eraseIdx k=_;rw[erase_map f l k];rfl
theorem inV_T (x:List Nat)(ps:List (List Nat)):inV (.str (T x)) (vT ps)=decide (x∈ps):=by
 unfold inV vT
 rw[List.any_map,Bool.eq_iff_iff,List.any_eq_true,decide_eq_true_eq]
 constructor
 ·rintro⟨l,hl,e⟩
  have e':(T l == T x)=true:=e
  rw[T_beq] at e'
  rw[← (beq_iff_eq.mp e')]
  exact hl
 ·intro hx
  refine⟨x,hx,?_⟩
  show(T x == T x)=true
  simp
def sT (ls:List (List Nat)):List D:=ls.map .str
theorem sT_app (a b:List (List Nat)):sT a++sT b=sT (a++b):=by unfold sT;rw[List.map_append]
theorem all_fl (ls:List (List Nat)):(sT ls).all D.fl=true:=by simp[sT,D.fl]
theorem all_isS (ls:List (List Nat)):(sT ls).all isS=true:=by simp[sT,isS]
theorem map_unS (ls:List (List Nat)):(sT ls).map unS=ls:=by
 unfold sT;rw[List.map_map]
 exact(List.map_congr_left fun x _=>rfl).trans (List.map_id ls)
theorem pls_sT:∀ls:List (List Nat),D.pls (sT ls)=true
 | []=>rfl
 | l::ls=>by show((D.str l).pl&&D.pls (sT ls))=true;rw[pls_sT ls];rfl
theorem yK (ls:List (List Nat)):(sT ls).length=ls.length:=by simp[sT]
theorem inV_sT (x:List Nat)(ls:List (List Nat)):inV (D.str x).toV ((sT ls).map D.toV)=decide (x∈ls):=by
 have e:(sT ls).map D.toV=vT ls:=by unfold sT vT;rw[List.map_map];rfl
 rw[e];exact inV_T x ls
theorem inQ_sT (neg:Bool)(x:List Nat)(ls:List (List Nat)):inQ neg (.str x) (sT ls)=some (.bl (if neg then !decide (x∈ls) else decide (x∈ls))):=by
 unfold inQ
 rw[if_pos ⟨rfl,all_fl ls⟩,inV_sT]
end L2
namespace Pg
open PySem L2 My
theorem cut_none {α:Type}(l:List α)(m:Nat):cutL l none (some (m:Int))=l.take m:=by
 unfold cutL
 rw[HT.sIx_none,HT.sIx_nat,List.drop_zero,Nat.sub_zero,← List.take_take,List.take_length]
theorem cut_from {α:Type}(l:List α)(m:Nat):cutL l (some (m:Int)) none=l.drop m:=by
 unfold cutL
 rw[HT.sIx_none,HT.sIx_nat,List.take_of_length_le (by rw[List.length_drop];exact Nat.le_refl _)]
 rcases Nat.le_total m l.length with h|h
 ·rw[Nat.min_eq_left h]
 ·rw[Nat.min_eq_right h,List.drop_of_length_le (Nat.le_refl _),List.drop_of_length_le h]
theorem eqv_str (l m:List Nat):PyData.eqv (.str (T l)) (.str (T m))=decide (l=m):=by
 show(T l == T m)=_
 rw[T_beq]
 by_cases h:l=m
 ·subst h;simp
 ·rw[decide_eq_false h];simpa using h
theorem eqD_str (neg:Bool)(l m:List Nat):eqD neg (.str l) (.str m)=some (.bl (if neg then !decide (l=m) else decide (l=m))):=by
 unfold eqD
 rw[if_pos ⟨rfl,rfl,by show(PyData.str (T l)).depth≤60;simp[PyData.depth]⟩]
 show some (D.bl (if neg=true then !PyData.eqv (.str (T l)) (.str (T m)) else PyData.eqv (.str (T l)) (.str (T m))))=_
 rw[eqv_str]
theorem all_of {α:Type}(l:List α)(b:α→Bool):allD [.lst (l.map fun x=>D.bl (b x))]=some (.bl (l.all b)):=by
 show(if (l.map fun x=>D.bl (b x)).all isB=true then some (D.bl ((l.map fun x=>D.bl (b x)).all unB)) else none)=_
 have h:(l.map fun x=>D.bl (b x)).all isB=true:=by rw[List.all_map];exact List.all_eq_true.mpr fun _ _=>rfl
 rw[if_pos h,List.all_map];rfl
theorem any_of {α:Type}(l:List α)(b:α→Bool):anyD [.lst (l.map fun x=>D.bl (b x))]=some (.bl (l.any b)):=by
 show(if (l.map fun x=>D.bl (b x)).all isB=true then some (D.bl ((l.map fun x=>D.bl (b x)).any unB)) else none)=_
 have h:(l.map fun x=>D.bl (b x)).all isB=true:=by rw[List.all_map];exact List.all_eq_true.mpr fun _ _=>rfl
 rw[if_pos h,List.any_map];rfl
theorem tail_cut (ps:List (List Nat)):cutL (sT ps) (some 1) none=sT ps.tail:=by
 have:=cut_from (sT ps) 1
 rw[show((1:Nat):Int)=1 from rfl] at this
 rw[this,List.drop_one];exact(List.map_tail).symm
theorem zip_sT (ps qs:List (List Nat)):(sT ps).zip (sT qs)=(ps.zip qs).map fun x=>(D.str x.1,D.str x.2):=by
 unfold sT;rw[List.zip_map];rfl
def isText (m:Nat)(l:List Nat):Bool:=l.all fun c=>decide (c∈abcd.take m)
theorem isText_ok {m:Nat}(m4:m≤4){l:List Nat}(h:LetOk m l):isText m l=true:=by
 unfold isText
 rw[List.all_eq_true]
 exact fun c hc=>decide_eq_true (let_abcd m4 (h c hc))
theorem is_text_of_str (m:Nat)(l:List Nat)(hl:l.length≤1000000):fn_is_text_of [.int m,.str l]=.ok (.bl (isText m l)):=by
 have e:compD bTrue (f2 (inC false) (fNm 0) (fNm 1)) [.no,.fz (.str (abcd.take m))] (l.map fun c=>.str [c])=.ok (l.map fun c=>.bl (decide (c∈abcd.take m))):=yQ _ fun c hc=>rfl
 have e2:cutL [97,98,99,100] none (some (m:Int))=abcd.take m:=cut_none abcd m
 simp only[fn_is_text_of,g_is_text_of,yj,zQ,yI,sDrop,yM,sIf,sSet2,sIce,cutX,sRs,sFor,sForZ,sWh,sApp,sPop,sSetA,sSetO,sNewD,sPut,fSD,owL,odL,sNx,fC,fNm,f1,f2,zE,zj,fO,fA,fIf,tru,bT,bNot,bAnd,bOr,fAnd,fOr,fNot,lf,lf',Rs.bind,isN,mkT,mkL,ari,fI,lsD,tpD,sgD,fR,fCp,xJ,fLs,fL,fL1,fL2,szL,fCz,capR,yR,yq,fSl,slD,fM,fCh,isiD,isInt,isBool,isStr,isTup,lenD,ltI,leI,gtI,geI,ltS,addI,subI,D.pl,D.py,isS,List.getElem?_cons_zero,List.getElem?_cons_succ,List.set_cons_zero,List.set_cons_succ,List.map_cons,List.map_nil,List.length_cons,List.length_nil,List.replicate,List.append_nil,List.nil_append,List.cons_append,Nat.reduceSub,Nat.reduceAdd,Nat.reduceLeDiff,Bool.not_true,Bool.not_false,if_true,if_false,Bool.false_eq_true,reduceIte,Nat.zero_add,List.getElem?_nil,pls_sT,e2,e,List.length_map,if_pos hl,all_of,isText]
theorem is_rising_eq (ps:List (List Nat))(h:ps.length≤1000000):fn_is_rising [.tup (sT ps)]=.ok (.bl (rising ps)):=by
 have e2:compZ bTrue (f2 ltS (fNm 0) (fNm 1)) [.no,.no] (sT ps) (sT ps.tail)=.ok ((ps.zip ps.tail).map fun x=>.bl (decide (x.1<x.2))):=by
  rw[compZ_zip]
  rw[zip_sT,List.map_map,List.map_map]
  exact compZ_map (enc:=D.str) (enb:=D.str) _ fun x hx=>rfl
 simp only[fn_is_rising,g_is_rising,yj,zQ,yI,sDrop,yM,sIf,sSet2,sIce,cutX,sRs,sFor,sForZ,sWh,sApp,sPop,sSetA,sSetO,sNewD,sPut,fSD,owL,odL,sNx,fC,fNm,f1,f2,zE,zj,fO,fA,fIf,tru,bT,bNot,bAnd,bOr,fAnd,fOr,fNot,lf,lf',Rs.bind,isN,mkT,mkL,ari,fI,lsD,tpD,sgD,fR,fCp,xJ,fLs,fL,fL1,fL2,szL,fCz,capR,yR,yq,fSl,slD,fM,fCh,isiD,isInt,isBool,isStr,isTup,lenD,ltI,leI,gtI,geI,ltS,addI,subI,D.pl,D.py,isS,List.getElem?_cons_zero,List.getElem?_cons_succ,List.set_cons_zero,List.set_cons_succ,List.map_cons,List.map_nil,List.length_cons,List.length_nil,List.replicate,List.append_nil,List.nil_append,List.cons_append,Nat.reduceSub,Nat.reduceAdd,Nat.reduceLeDiff,Bool.not_true,Bool.not_false,if_true,if_false,Bool.false_eq_true,reduceIte,Nat.zero_add,List.getElem?_nil,pls_sT,tail_cut,e2,yK,if_pos h,all_of,rising]
theorem is_whole_int (i:Int):fn_is_whole [.int i]=.ok (.bl true):=rfl
theorem is_between_int (i lo hi:Int):xH [.int i,.int lo,.int hi]=.ok (.bl (decide (lo≤i)&&decide (i≤hi))):=by
 simp only[xH,g_is_between,yj,zQ,yI,sDrop,yM,sIf,sSet2,sIce,cutX,sRs,sFor,sForZ,sWh,sApp,sPop,sSetA,sSetO,sNewD,sPut,fSD,owL,odL,sNx,fC,fNm,f1,f2,zE,zj,fO,fA,fIf,tru,bT,bNot,bAnd,bOr,fAnd,fOr,fNot,lf,lf',Rs.bind,isN,mkT,mkL,ari,fI,lsD,tpD,sgD,fR,fCp,xJ,fLs,fL,fL1,fL2,szL,fCz,capR,yR,yq,fSl,slD,fM,fCh,isiD,isInt,isBool,isStr,isTup,lenD,ltI,leI,gtI,geI,ltS,addI,subI,D.pl,D.py,isS,List.getElem?_cons_zero,List.getElem?_cons_succ,List.set_cons_zero,List.set_cons_succ,List.map_cons,List.map_nil,List.length_cons,List.length_nil,List.replicate,List.append_nil,List.nil_append,List.cons_append,Nat.reduceSub,Nat.reduceAdd,Nat.reduceLeDiff,Bool.not_true,Bool.not_false,if_true,if_false,Bool.false_eq_true,reduceIte,Nat.zero_add,List.getElem?_nil,pls_sT,is_whole_int]
 by_cases h:lo≤i
 ·simp[h]
 ·simp[h]
theorem is_number_eq (i:Int):ye [.int i]=.ok (.bl (decide (2≤i)&&decide (i≤4))):=by
 simp only[ye,yo,yj,zQ,yI,sDrop,yM,sIf,sSet2,sIce,cutX,sRs,sFor,sForZ,sWh,sApp,sPop,sSetA,sSetO,sNewD,sPut,fSD,owL,odL,sNx,fC,fNm,f1,f2,zE,zj,fO,fA,fIf,tru,bT,bNot,bAnd,bOr,fAnd,fOr,fNot,lf,lf',Rs.bind,isN,mkT,mkL,ari,fI,lsD,tpD,sgD,fR,fCp,xJ,fLs,fL,fL1,fL2,szL,fCz,capR,yR,yq,fSl,slD,fM,fCh,isiD,isInt,isBool,isStr,isTup,lenD,ltI,leI,gtI,geI,ltS,addI,subI,D.pl,D.py,isS,List.getElem?_cons_zero,List.getElem?_cons_succ,List.set_cons_zero,List.set_cons_succ,List.map_cons,List.map_nil,List.length_cons,List.length_nil,List.replicate,List.append_nil,List.nil_append,List.cons_append,Nat.reduceSub,Nat.reduceAdd,Nat.reduceLeDiff,Bool.not_true,Bool.not_false,if_true,if_false,Bool.false_eq_true,reduceIte,Nat.zero_add,List.getElem?_nil,pls_sT,is_between_int]
 rfl
theorem is_inner_eq (ps:List (List Nat))(x:List Nat)(h:ps.length≤1000000):zU [.tup (sT ps),.str x]=.ok (.bl (isInner ps x)):=by
 have e:compD bTrue (fAnd (fM isS yJ (fNm 0) (fNm 1)) (f2 (eqD true) (fNm 0) (fNm 1))) [.no,.fz (.str x)] (sT ps)=.ok (ps.map fun p=>.bl (x.isPrefixOf p && !decide (p=x))):=yQ _ fun p hp=>by
  simp only[yj,zQ,yI,sDrop,yM,sIf,sSet2,sIce,cutX,sRs,sFor,sForZ,sWh,sApp,sPop,sSetA,sSetO,sNewD,sPut,fSD,owL,odL,sNx,fC,fNm,f1,f2,zE,zj,fO,fA,fIf,tru,bT,bNot,bAnd,bOr,fAnd,fOr,fNot,lf,lf',Rs.bind,isN,mkT,mkL,ari,fI,lsD,tpD,sgD,fR,fCp,xJ,fLs,fL,fL1,fL2,szL,fCz,capR,yR,yq,fSl,slD,fM,fCh,isiD,isInt,isBool,isStr,isTup,lenD,ltI,leI,gtI,geI,ltS,addI,subI,D.pl,D.py,isS,List.getElem?_cons_zero,List.getElem?_cons_succ,List.set_cons_zero,List.set_cons_succ,List.map_cons,List.map_nil,List.length_cons,List.length_nil,List.replicate,List.append_nil,List.nil_append,List.cons_append,Nat.reduceSub,Nat.reduceAdd,Nat.reduceLeDiff,Bool.not_true,Bool.not_false,if_true,if_false,Bool.false_eq_true,reduceIte,Nat.zero_add,List.getElem?_nil,pls_sT,yJ,eqD_str]
  cases x.isPrefixOf p <;>simp
 simp only[zU,g_is_inner,yj,zQ,yI,sDrop,yM,sIf,sSet2,sIce,cutX,sRs,sFor,sForZ,sWh,sApp,sPop,sSetA,sSetO,sNewD,sPut,fSD,owL,odL,sNx,fC,fNm,f1,f2,zE,zj,fO,fA,fIf,tru,bT,bNot,bAnd,bOr,fAnd,fOr,fNot,lf,lf',Rs.bind,isN,mkT,mkL,ari,fI,lsD,tpD,sgD,fR,fCp,xJ,fLs,fL,fL1,fL2,szL,fCz,capR,yR,yq,fSl,slD,fM,fCh,isiD,isInt,isBool,isStr,isTup,lenD,ltI,leI,gtI,geI,ltS,addI,subI,D.pl,D.py,isS,List.getElem?_cons_zero,List.getElem?_cons_succ,List.set_cons_zero,List.set_cons_succ,List.map_cons,List.map_nil,List.length_cons,List.length_nil,List.replicate,List.append_nil,List.nil_append,List.cons_append,Nat.reduceSub,Nat.reduceAdd,Nat.reduceLeDiff,Bool.not_true,Bool.not_false,if_true,if_false,Bool.false_eq_true,reduceIte,Nat.zero_add,List.getElem?_nil,pls_sT,e,yK,if_pos h,any_of]
 rfl
theorem is_apart_eq (ps:List (List Nat))(x:List Nat)(h:ps.length≤1000000):zT [.tup (sT ps),.str x]=.ok (.bl (isApart ps x)):=by
 have e:compD bTrue (fOr (fM isS yJ (fNm 0) (fNm 1)) (fM isS yJ (fNm 1) (fNm 0))) [.no,.fz (.str x)] (sT ps)=.ok (ps.map fun p=>.bl (x.isPrefixOf p || p.isPrefixOf x)):=yQ _ fun p hp=>by
  simp only[yj,zQ,yI,sDrop,yM,sIf,sSet2,sIce,cutX,sRs,sFor,sForZ,sWh,sApp,sPop,sSetA,sSetO,sNewD,sPut,fSD,owL,odL,sNx,fC,fNm,f1,f2,zE,zj,fO,fA,fIf,tru,bT,bNot,bAnd,bOr,fAnd,fOr,fNot,lf,lf',Rs.bind,isN,mkT,mkL,ari,fI,lsD,tpD,sgD,fR,fCp,xJ,fLs,fL,fL1,fL2,szL,fCz,capR,yR,yq,fSl,slD,fM,fCh,isiD,isInt,isBool,isStr,isTup,lenD,ltI,leI,gtI,geI,ltS,addI,subI,D.pl,D.py,isS,List.getElem?_cons_zero,List.getElem?_cons_succ,List.set_cons_zero,List.set_cons_succ,List.map_cons,List.map_nil,List.length_cons,List.length_nil,List.replicate,List.append_nil,List.nil_append,List.cons_append,Nat.reduceSub,Nat.reduceAdd,Nat.reduceLeDiff,Bool.not_true,Bool.not_false,if_true,if_false,Bool.false_eq_true,reduceIte,Nat.zero_add,List.getElem?_nil,pls_sT,yJ]
  cases x.isPrefixOf p <;>simp
 simp only[zT,g_is_apart,yj,zQ,yI,sDrop,yM,sIf,sSet2,sIce,cutX,sRs,sFor,sForZ,sWh,sApp,sPop,sSetA,sSetO,sNewD,sPut,fSD,owL,odL,sNx,fC,fNm,f1,f2,zE,zj,fO,fA,fIf,tru,bT,bNot,bAnd,bOr,fAnd,fOr,fNot,lf,lf',Rs.bind,isN,mkT,mkL,ari,fI,lsD,tpD,sgD,fR,fCp,xJ,fLs,fL,fL1,fL2,szL,fCz,capR,yR,yq,fSl,slD,fM,fCh,isiD,isInt,isBool,isStr,isTup,lenD,ltI,leI,gtI,geI,ltS,addI,subI,D.pl,D.py,isS,List.getElem?_cons_zero,List.getElem?_cons_succ,List.set_cons_zero,List.set_cons_succ,List.map_cons,List.map_nil,List.length_cons,List.length_nil,List.replicate,List.append_nil,List.nil_append,List.cons_append,Nat.reduceSub,Nat.reduceAdd,Nat.reduceLeDiff,Bool.not_true,Bool.not_false,if_true,if_false,Bool.false_eq_true,reduceIte,Nat.zero_add,List.getElem?_nil,pls_sT,e,yK,if_pos h,any_of]
 rfl
theorem first_pair_eq (ps:List (List Nat)):yD [.tup (sT ps)]=.ok (match firstPair ps with|some x=>.tup [.str x.1,.str x.2] | none=>.non):=by
 have key:=forZ_find (i:=1) (j:=2) (g:=sIf (bT (fM isS yJ (fNm 2) (fNm 1))) (yI (fO mkT (zj (fNm 1) (zj (fNm 2) zE)))) sNx) (ρ:=[.fz (.tup (sT ps)),.no,.no]) (l:=ps.zip ps.tail) (enc:=D.str) (enb:=D.str)
  (fun ρ=>∃a b,ρ=[.fz (.tup (sT ps)),a,b]) (fun x=>x.1.isPrefixOf x.2) (fun x=>.tup [.str x.1,.str x.2]) ⟨_,_,rfl⟩ (fun x hx ρ ⟨a,b,e⟩=>by
   subst e
   cases hp:x.1.isPrefixOf x.2 with
   | true=>simp only[yj,zQ,yI,sDrop,yM,sIf,sSet2,sIce,cutX,sRs,sFor,sForZ,sWh,sApp,sPop,sSetA,sSetO,sNewD,sPut,fSD,owL,odL,sNx,fC,fNm,f1,f2,zE,zj,fO,fA,fIf,tru,bT,bNot,bAnd,bOr,fAnd,fOr,fNot,lf,lf',Rs.bind,isN,mkT,mkL,ari,fI,lsD,tpD,sgD,fR,fCp,xJ,fLs,fL,fL1,fL2,szL,fCz,capR,yR,yq,fSl,slD,fM,fCh,isiD,isInt,isBool,isStr,isTup,lenD,ltI,leI,gtI,geI,ltS,addI,subI,D.pl,D.py,isS,List.getElem?_cons_zero,List.getElem?_cons_succ,List.set_cons_zero,List.set_cons_succ,List.map_cons,List.map_nil,List.length_cons,List.length_nil,List.replicate,List.append_nil,List.nil_append,List.cons_append,Nat.reduceSub,Nat.reduceAdd,Nat.reduceLeDiff,Bool.not_true,Bool.not_false,if_true,if_false,Bool.false_eq_true,reduceIte,Nat.zero_add,List.getElem?_nil,pls_sT,yJ,hp]
   | false=>simp only[yj,zQ,yI,sDrop,yM,sIf,sSet2,sIce,cutX,sRs,sFor,sForZ,sWh,sApp,sPop,sSetA,sSetO,sNewD,sPut,fSD,owL,odL,sNx,fC,fNm,f1,f2,zE,zj,fO,fA,fIf,tru,bT,bNot,bAnd,bOr,fAnd,fOr,fNot,lf,lf',Rs.bind,isN,mkT,mkL,ari,fI,lsD,tpD,sgD,fR,fCp,xJ,fLs,fL,fL1,fL2,szL,fCz,capR,yR,yq,fSl,slD,fM,fCh,isiD,isInt,isBool,isStr,isTup,lenD,ltI,leI,gtI,geI,ltS,addI,subI,D.pl,D.py,isS,List.getElem?_cons_zero,List.getElem?_cons_succ,List.set_cons_zero,List.set_cons_succ,List.map_cons,List.map_nil,List.length_cons,List.length_nil,List.replicate,List.append_nil,List.nil_append,List.cons_append,Nat.reduceSub,Nat.reduceAdd,Nat.reduceLeDiff,Bool.not_true,Bool.not_false,if_true,if_false,Bool.false_eq_true,reduceIte,Nat.zero_add,List.getElem?_nil,pls_sT,yJ,hp];exact⟨_,rfl,_,_,rfl⟩)
 have e4:forZ 1 2 (sIf (bT (fM isS yJ (fNm 2) (fNm 1))) (yI (fO mkT (zj (fNm 1) (zj (fNm 2) zE)))) sNx) (sT ps) (sT ps.tail) [.fz (.tup (sT ps)),.no,.no]=forZ 1 2 (sIf (bT (fM isS yJ (fNm 2) (fNm 1))) (yI (fO mkT (zj (fNm 1) (zj (fNm 2) zE)))) sNx) ((ps.zip ps.tail).map fun x=>D.str x.1) ((ps.zip ps.tail).map fun x=>D.str x.2) [.fz (.tup (sT ps)),.no,.no]:=by
  rw[forZ_zip,zip_sT,List.map_map,List.map_map];rfl
 have e5:sForZ 1 2 (fNm 0) (fSl (fNm 0) (yq (fC (.int 1))) yR) (sIf (bT (fM isS yJ (fNm 2) (fNm 1))) (yI (fO mkT (zj (fNm 1) (zj (fNm 2) zE)))) sNx) [.fz (.tup (sT ps)),.no,.no]=forZ 1 2 (sIf (bT (fM isS yJ (fNm 2) (fNm 1))) (yI (fO mkT (zj (fNm 1) (zj (fNm 2) zE)))) sNx) ((ps.zip ps.tail).map fun x=>D.str x.1) ((ps.zip ps.tail).map fun x=>D.str x.2) [.fz (.tup (sT ps)),.no,.no]:=by
  rw[← e4]
  unfold sForZ
  have e6:fSl (fNm 0) (yq (fC (.int 1))) yR [.fz (.tup (sT ps)),.no,.no]=.ok (.tup (sT ps.tail)):=by rw[← tail_cut];rfl
  rw[e6];rfl
 unfold firstPair
 cases hf:(ps.zip ps.tail).find? fun x=>x.1.isPrefixOf x.2 with
 | some x =>
  rw[hf] at key
  have e7:yP [.fz (.tup (sT ps)),.no,.no]=.rt (.tup [.str x.1,.str x.2]):=by
   unfold yP zQ cutX
   rw[e5,key]
  exact zV e7
 | none =>
  rw[hf] at key
  obtain⟨ρ',k1,a,b,rfl⟩:=key
  have e7:yP [.fz (.tup (sT ps)),.no,.no]=.rt .non:=by
   unfold yP zQ cutX
   rw[e5,k1];rfl
  exact zV e7
def Pcs (m:Nat)(ps:List (List Nat)):Prop:=2≤m∧m≤4∧ps≠[]∧ps.length≤32∧∀p∈ps,LetOk m p∧p≠[]∧p.length≤31
theorem pieces_comp {m:Nat}{ps:List (List Nat)}(h:∀p∈ps,p.length≤1000000):compD bTrue (fAnd (fA (ari 2 fn_is_text_of) (zj (fNm 1) (zj (fNm 0) zE))) (f2 (eqD true) (fNm 0) (fC (.str [])))) [.no,.fz (.int m)] (sT ps)=.ok (ps.map fun p=>.bl (isText m p && !decide (p=[]))):=yQ _ fun p hp=>by
  simp only[yj,zQ,yI,sDrop,yM,sIf,sSet2,sIce,cutX,sRs,sFor,sForZ,sWh,sApp,sPop,sSetA,sSetO,sNewD,sPut,fSD,owL,odL,sNx,fC,fNm,f1,f2,zE,zj,fO,fA,fIf,tru,bT,bNot,bAnd,bOr,fAnd,fOr,fNot,lf,lf',Rs.bind,isN,mkT,mkL,ari,fI,lsD,tpD,sgD,fR,fCp,xJ,fLs,fL,fL1,fL2,szL,fCz,capR,yR,yq,fSl,slD,fM,fCh,isiD,isInt,isBool,isStr,isTup,lenD,ltI,leI,gtI,geI,ltS,addI,subI,D.pl,D.py,isS,List.getElem?_cons_zero,List.getElem?_cons_succ,List.set_cons_zero,List.set_cons_succ,List.map_cons,List.map_nil,List.length_cons,List.length_nil,List.replicate,List.append_nil,List.nil_append,List.cons_append,Nat.reduceSub,Nat.reduceAdd,Nat.reduceLeDiff,Bool.not_true,Bool.not_false,if_true,if_false,Bool.false_eq_true,reduceIte,Nat.zero_add,List.getElem?_nil,pls_sT,is_text_of_str m p (h p hp),eqD_str]
  cases isText m p <;>simp
theorem are_pieces_eq {m:Nat}{ps:List (List Nat)}(h:Pcs m ps):fn_are_pieces [.int m,.tup (sT ps)]=.ok (.bl (rising ps)):=by
 obtain⟨m2,m4,hne,hl,hp⟩:=h
 have h1:∀p∈ps,p.length≤1000000:=fun p q=>by have:=(hp p q).2.2;omega
 have e1:(ps.all fun p=>isText m p && !decide (p=[]))=true:=List.all_eq_true.mpr fun p q=>by
  obtain⟨a,b,_⟩:=hp p q
  rw[isText_ok m4 a,decide_eq_false b];rfl
 have hpos:1≤ps.length:=List.length_pos_iff.mpr hne
 have d1:decide ((2:Int)≤(m:Int))=true:=decide_eq_true (by omega)
 have d2:decide ((m:Int)≤4)=true:=decide_eq_true (by omega)
 have d3:decide ((1:Int)≤(ps.length:Int))=true:=decide_eq_true (by omega)
 have d4:decide ((ps.length:Int)≤32)=true:=decide_eq_true (by omega)
 have hz:ps.length≤1000000:=by omega
 simp only[fn_are_pieces,g_are_pieces,yj,zQ,yI,sDrop,yM,sIf,sSet2,sIce,cutX,sRs,sFor,sForZ,sWh,sApp,sPop,sSetA,sSetO,sNewD,sPut,fSD,owL,odL,sNx,fC,fNm,f1,f2,zE,zj,fO,fA,fIf,tru,bT,bNot,bAnd,bOr,fAnd,fOr,fNot,lf,lf',Rs.bind,isN,mkT,mkL,ari,fI,lsD,tpD,sgD,fR,fCp,xJ,fLs,fL,fL1,fL2,szL,fCz,capR,yR,yq,fSl,slD,fM,fCh,isiD,isInt,isBool,isStr,isTup,lenD,ltI,leI,gtI,geI,ltS,addI,subI,D.pl,D.py,isS,List.getElem?_cons_zero,List.getElem?_cons_succ,List.set_cons_zero,List.set_cons_succ,List.map_cons,List.map_nil,List.length_cons,List.length_nil,List.replicate,List.append_nil,List.nil_append,List.cons_append,Nat.reduceSub,Nat.reduceAdd,Nat.reduceLeDiff,Bool.not_true,Bool.not_false,if_true,if_false,Bool.false_eq_true,reduceIte,Nat.zero_add,List.getElem?_nil,pls_sT,is_number_eq,d1,d2,Bool.and_self,yK,d3,d4,if_pos hz,pieces_comp h1,all_of,e1,is_rising_eq ps hz]
theorem sIter {m:Nat}{ρ:Rho}(h:ρ[0]? = some (.fz (.int (m:Int)))):fI sgD (fSl (fC (.str [97,98,99,100])) yR (yq (fNm 0))) ρ=.ok ((abcd.take m).map fun c=>.str [c]):=by
 have e2:cutL [97,98,99,100] none (some (m:Int))=abcd.take m:=cut_none abcd m
 simp only[fI,fSl,fC,yR,yq,fNm,h,Rs.bind,slD,lf,e2,sgD]
theorem gone_on_eq {m:Nat}(xs:List (List Nat))(hl:∀x∈xs,x.length≤999999)(hn:4*xs.length≤999999):yG [.int m,.lst (sT xs)]=.ok (.lst (sT (zN m xs))):=by
 have hab:(abcd.take m).length≤4:=by rw[List.length_take];exact Nat.min_le_right _ _
 have inner:∀(x:List Nat) (acc:List (List Nat)) (s:Sl),x.length≤999999→acc.length+4≤999999→∃s',sFor 4 (fI sgD (fSl (fC (.str [97,98,99,100])) yR (yq (fNm 0)))) (sApp 2 (f2 addS (fNm 3) (fNm 4))) [.fz (.int m),.fz (.lst (sT xs)),.ow (sT acc),.fz (.str x),s]=.nx [.fz (.int m),.fz (.lst (sT xs)),.ow (sT (acc++(abcd.take m).map fun c=>x++[c])),.fz (.str x),s']:=by
  intro x acc s hx ha
  rw[sFor_ok (sIter rfl)]
  obtain ⟨ρ',e,s',rfl⟩:=forD_inv (i:=4) (g:=sApp 2 (f2 addS (fNm 3) (fNm 4))) (l:=abcd.take m) (enc:=fun c=>D.str [c]) (ρ:=[.fz (.int m),.fz (.lst (sT xs)),.ow (sT acc),.fz (.str x),s])
   (fun k ρ=>∃s',ρ=[.fz (.int m),.fz (.lst (sT xs)),.ow (sT (acc++((abcd.take m).take k).map fun c=>x++[c])),.fz (.str x),s']) ⟨s,by simp⟩ (fun k c ρ hc ⟨s',e⟩=>by
    subst e
    have hk:k<(abcd.take m).length:=(List.getElem?_eq_some_iff.mp hc).1
    have e3:(abcd.take m).take (k+1)=(abcd.take m).take k++[c]:=by rw[List.take_add_one,hc];rfl
    have hlen:(sT (acc++((abcd.take m).take k).map fun c=>x++[c])).length<1000000:=by
     rw[yK,List.length_append,List.length_map,List.length_take];omega
    have hz:x.length+1≤1000000:=by omega
    refine⟨_,sApp_ok rfl (zR (a:=.str x) (b:=.str [c]) rfl rfl (addS_ok hz)) hlen,.fz (.str [c]),?_⟩
    have e5:sT (acc++((abcd.take m).take (k+1)).map fun c=>x++[c])=sT (acc++((abcd.take m).take k).map fun c=>x++[c])++[D.str (x++[c])]:=by
     rw[e3,List.map_append,← List.append_assoc,← sT_app (acc++_)];rfl
    rw[e5];rfl)
  refine⟨s',e.trans ?_⟩
  rw[List.take_of_length_le (Nat.le_refl _)]
 have outer:=forD_inv (i:=3) (g:=sFor 4 (fI sgD (fSl (fC (.str [97,98,99,100])) yR (yq (fNm 0)))) (sApp 2 (f2 addS (fNm 3) (fNm 4)))) (l:=xs) (enc:=D.str) (ρ:=[.fz (.int m),.fz (.lst (sT xs)),.ow [],.no,.no])
  (fun k ρ=>∃s s',ρ=[.fz (.int m),.fz (.lst (sT xs)),.ow (sT (zN m (xs.take k))),s,s']) ⟨.no,.no,rfl⟩ (fun k x ρ hx ⟨s,s',e⟩=>by
   subst e
   have hk:k<xs.length:=(List.getElem?_eq_some_iff.mp hx).1
   have e3:xs.take (k+1)=xs.take k++[x]:=by rw[List.take_add_one,hx];rfl
   have hg:(zN m (xs.take k)).length≤4*k:=by
    have:(zN m (xs.take k)).length≤4*(xs.take k).length:=by
     unfold zN
     generalize xs.take k=ys
     induction ys with
     | nil=>simp
     | cons y ys ih=>simp only[List.flatMap_cons,List.length_append,List.length_map,List.length_cons];omega
    rw[List.length_take] at this;omega
   obtain⟨s2,e4⟩:=inner x (zN m (xs.take k)) s' (hl x (List.mem_of_getElem? hx)) (by omega)
   refine⟨_,e4,.fz (.str x),s2,?_⟩
   rw[e3]
   unfold zN
   rw[List.flatMap_append]
   simp)
 obtain⟨ρ',e,s,s',rfl⟩:=outer
 rw[List.take_of_length_le (Nat.le_refl _)] at e
 refine zV ?_
 show g_gone_on [.fz (.int m),.fz (.lst (sT xs)),.no,.no,.no]=_
 unfold g_gone_on
 refine(zA (g:=sSetO 2 (fL szL zE)) (ρ':=[.fz (.int m),.fz (.lst (sT xs)),.ow [],.no,.no]) rfl).trans ?_
 refine(zA (cutX_nx ((sFor_ok (ds:=sT xs) rfl).trans e))).trans ?_
 rfl
theorem fta_round {m:Nat}{ps:List (List Nat)}(hl:ps.length≤1000000)(xs:List (List Nat))(hx:∀x∈xs,x.length≤999)(hn:xs.length≤99999)(s3 s4:Sl) :
  match (zN m xs).find? (isApart ps) with
  | some x=>zQ (yM 3 (fA (ari 2 yG) (zj (fNm 0) (zj (fNm 2) zE)))) (zQ (sFor 4 (fI lsD (fNm 3)) (sIf (bT (fA (ari 2 zT) (zj (fNm 1) (zj (fNm 4) zE)))) (yI (fNm 4)) sNx)) (sSetA 2 (fCp (fI lsD (fNm 3)) (bT (fA (ari 2 zU) (zj (fNm 1) (zj (fNm 0) zE)))) (fNm 0) [1]))) [.fz (.int m),.fz (.tup (sT ps)),.fz (.lst (sT xs)),s3,s4]=.rt (.str x)
  | none=>∃s3' s4',zQ (yM 3 (fA (ari 2 yG) (zj (fNm 0) (zj (fNm 2) zE)))) (zQ (sFor 4 (fI lsD (fNm 3)) (sIf (bT (fA (ari 2 zT) (zj (fNm 1) (zj (fNm 4) zE)))) (yI (fNm 4)) sNx)) (sSetA 2 (fCp (fI lsD (fNm 3)) (bT (fA (ari 2 zU) (zj (fNm 1) (zj (fNm 0) zE)))) (fNm 0) [1]))) [.fz (.int m),.fz (.tup (sT ps)),.fz (.lst (sT xs)),s3,s4]=.nx [.fz (.int m),.fz (.tup (sT ps)),.fz (.lst (sT ((zN m xs).filter (isInner ps)))),s3',s4']:=by
 have eg:=gone_on_eq (m:=m) xs (fun x q=>by have:=hx x q;omega) (by omega)
 have e1:(yM 3 (fA (ari 2 yG) (zj (fNm 0) (zj (fNm 2) zE)))) [.fz (.int m),.fz (.tup (sT ps)),.fz (.lst (sT xs)),s3,s4]=.nx [.fz (.int m),.fz (.tup (sT ps)),.fz (.lst (sT xs)),.fz (.lst (sT (zN m xs))),s4]:=by
  refine zF (d:=.lst (sT (zN m xs))) ?_
  exact eg
 have hgl:(zN m xs).length≤1000000:=by
  have hab:(abcd.take m).length≤4:=by rw[List.length_take];exact Nat.min_le_right _ _
  have:(zN m xs).length≤4*xs.length:=by
   unfold zN
   clear hn hx eg e1
   induction xs with
   | nil=>simp
   | cons y ys ih=>simp only[List.flatMap_cons,List.length_append,List.length_map,List.length_cons];omega
  omega
 have key:=forD_find (i:=4) (g:=sIf (bT (fA (ari 2 zT) (zj (fNm 1) (zj (fNm 4) zE)))) (yI (fNm 4)) sNx) (ρ:=[.fz (.int m),.fz (.tup (sT ps)),.fz (.lst (sT xs)),.fz (.lst (sT (zN m xs))),s4]) (l:=zN m xs) (enc:=D.str)
  (fun ρ=>∃a,ρ=[.fz (.int m),.fz (.tup (sT ps)),.fz (.lst (sT xs)),.fz (.lst (sT (zN m xs))),a]) (isApart ps) (fun x=>.str x) ⟨_,rfl⟩ (fun x hx ρ ⟨a,e⟩=>by
   subst e
   have ea:(bT (fA (ari 2 zT) (zj (fNm 1) (zj (fNm 4) zE)))) [.fz (.int m),.fz (.tup (sT ps)),.fz (.lst (sT xs)),.fz (.lst (sT (zN m xs))),.fz (.str x)]=.ok (isApart ps x):=by
    show(zT [.tup (sT ps),.str x]).bind tru=_
    rw[is_apart_eq ps x hl];rfl
   cases hp:isApart ps x with
   | true=>rw[if_pos rfl];rw[hp] at ea;exact(sIf_t ea).trans rfl
   | false=>rw[if_neg Bool.false_ne_true];rw[hp] at ea;exact⟨_,(sIf_f ea).trans rfl,_,rfl⟩)
 cases hf:(zN m xs).find? (isApart ps) with
 | some x =>
  rw[hf] at key
  refine(zA e1).trans (sSeq_rt ((sFor_ok (ds:=sT (zN m xs)) rfl).trans key))
 | none =>
  rw[hf] at key
  obtain⟨ρ',k1,a,rfl⟩:=key
  have ec:compD (bT (fA (ari 2 zU) (zj (fNm 1) (zj (fNm 0) zE)))) (fNm 0) [.no,.fz (.tup (sT ps))] (sT (zN m xs))=.ok (((zN m xs).filter (isInner ps)).map .str):=compD_of _ _ fun x hx=>⟨by
   show(zU [.tup (sT ps),.str x]).bind tru=_
   rw[is_inner_eq ps x hl];rfl,fun _=>rfl⟩
  refine⟨.fz (.lst (sT (zN m xs))),a,(zA e1).trans ((zA ((sFor_ok (ds:=sT (zN m xs)) rfl).trans k1)).trans ?_)⟩
  have e5:fCp (fI lsD (fNm 3)) (bT (fA (ari 2 zU) (zj (fNm 1) (zj (fNm 0) zE)))) (fNm 0) [1] [.fz (.int m),.fz (.tup (sT ps)),.fz (.lst (sT xs)),.fz (.lst (sT (zN m xs))),a]=.ok (sT ((zN m xs).filter (isInner ps))):=by
   show(if (sT (zN m xs)).length≤1000000 then compD _ _ [.no,.fz (.tup (sT ps))] (sT (zN m xs)) else .no)=_
   rw[yK,if_pos hgl]
   exact ec
  unfold sSetA
  rw[e5];rfl
theorem eqvAll_sT:∀(xs ys:List (List Nat)),PyData.eqvAll (D.pys (sT xs)) (D.pys (sT ys))=decide (xs=ys)
 | [],[]=>rfl
 | [],_::_=>rfl
 | _::_,[]=>rfl
 | x::xs,y::ys=>by
  show(PyData.eqv (.str (T x)) (.str (T y))&&PyData.eqvAll (D.pys (sT xs)) (D.pys (sT ys)))=_
  rw[eqvAll_sT xs ys,eqv_str]
  by_cases h:x=y <;>by_cases h2:xs=ys <;>simp[h,h2]
theorem dep_sT:∀xs:List (List Nat),PyData.depthAll (D.pys (sT xs))=0
 | []=>rfl
 | x::xs=>by
  show max (PyData.depth (.str (T x))) (PyData.depthAll (D.pys (sT xs)))=0
  rw[dep_sT xs];rfl
theorem eqD_lst (neg:Bool)(xs ys:List (List Nat)):eqD neg (.lst (sT xs)) (.lst (sT ys))=some (.bl (if neg then !decide (xs=ys) else decide (xs=ys))):=by
 have h:(D.lst (sT xs)).pl=true∧(D.lst (sT ys)).pl=true∧(D.lst (sT xs)).py.depth≤60:=⟨pls_sT xs,pls_sT ys,by show PyData.depthAll (D.pys (sT xs))+1≤60;rw[dep_sT];omega⟩
 unfold eqD
 rw[if_pos h]
 show some (D.bl (if neg=true then !PyData.eqvAll (D.pys (sT xs)) (D.pys (sT ys)) else PyData.eqvAll (D.pys (sT xs)) (D.pys (sT ys))))=_
 rw[eqvAll_sT]
theorem goneOn_nd (m:Nat){xs:List (List Nat)}(h:xs.Nodup):(zN m xs).Nodup:=by
 induction xs with
 | nil=>exact List.nodup_nil
 | cons x xs ih =>
  obtain⟨h1,h2⟩:=List.nodup_cons.mp h
  show((kids m x)++zN m xs).Nodup
  refine List.nodup_append.mpr ⟨kids_nd m x,ih h2,fun y hy z hz e=>?_⟩
  subst e
  obtain⟨c,hc,e⟩:=kids_mem.mp hy
  obtain⟨w,hw,d,hd,e2⟩:=goneOn_mem hz
  have:=congrArg List.dropLast (e.symm.trans e2)
  rw[List.dropLast_concat,List.dropLast_concat] at this
  exact h1 (this▸hw)
theorem fta_loop {m:Nat}(m4:m≤4){ps:List (List Nat)}(hl:ps.length≤10000)(h8:∀p∈ps,p.length≤31):∀(k L n:Nat) (xs:List (List Nat)) (s3 s4:Sl),L+k=32→(∀x∈xs,x.length=L∧(L=0∨isInner ps x=true))→xs.Nodup→k<n →
  match fta m ps k xs with
  | some x=>whD (bT (f2 (eqD true) (fNm 2) (fO mkL zE))) (zQ (yM 3 (fA (ari 2 yG) (zj (fNm 0) (zj (fNm 2) zE)))) (zQ (sFor 4 (fI lsD (fNm 3)) (sIf (bT (fA (ari 2 zT) (zj (fNm 1) (zj (fNm 4) zE)))) (yI (fNm 4)) sNx)) (sSetA 2 (fCp (fI lsD (fNm 3)) (bT (fA (ari 2 zU) (zj (fNm 1) (zj (fNm 0) zE)))) (fNm 0) [1])))) n [.fz (.int m),.fz (.tup (sT ps)),.fz (.lst (sT xs)),s3,s4]=.rt (.str x)
  | none=>∃ρ',whD (bT (f2 (eqD true) (fNm 2) (fO mkL zE))) (zQ (yM 3 (fA (ari 2 yG) (zj (fNm 0) (zj (fNm 2) zE)))) (zQ (sFor 4 (fI lsD (fNm 3)) (sIf (bT (fA (ari 2 zT) (zj (fNm 1) (zj (fNm 4) zE)))) (yI (fNm 4)) sNx)) (sSetA 2 (fCp (fI lsD (fNm 3)) (bT (fA (ari 2 zU) (zj (fNm 1) (zj (fNm 0) zE)))) (fNm 0) [1])))) n [.fz (.int m),.fz (.tup (sT ps)),.fz (.lst (sT xs)),s3,s4]=.nx ρ':=by
 intro k
 induction k with
 | zero =>
  intro L n xs s3 s4 hL hx hn hk
  have:xs=[]:=by
   cases xs with
   | nil=>rfl
   | cons x xs =>
    obtain⟨e1,e2⟩:=hx x (.head _)
    rcases e2 with e2|e2
    ·omega
    ·have:=inner_len e2 h8;omega
  subst this
  obtain⟨n',rfl⟩:∃n',n=n'+1:=⟨n - 1,by omega⟩
  refine⟨[.fz (.int m),.fz (.tup (sT ps)),.fz (.lst (sT [])),s3,s4],?_⟩
  unfold whD
  have e0:(bT (f2 (eqD true) (fNm 2) (fO mkL zE))) [.fz (.int m),.fz (.tup (sT ps)),.fz (.lst (sT [])),s3,s4]=.ok false:=by
   show(lf (eqD true (.lst (sT [])) (.lst (sT [])))).bind tru=_
   rw[eqD_lst];rfl
  rw[e0]
 | succ k ih =>
  intro L n xs s3 s4 hL hx hn hk
  obtain⟨n',rfl⟩:∃n',n=n'+1:=⟨n - 1,by omega⟩
  have et:(bT (f2 (eqD true) (fNm 2) (fO mkL zE))) [.fz (.int m),.fz (.tup (sT ps)),.fz (.lst (sT xs)),s3,s4]=.ok (!decide (xs=[])):=by
   show(lf (eqD true (.lst (sT xs)) (.lst (sT [])))).bind tru=_
   rw[eqD_lst];rfl
  by_cases h0:xs=[]
  ·have ef:fta m ps (k+1) xs=none:=by unfold fta;rw[if_pos h0]
   rw[ef]
   refine⟨[.fz (.int m),.fz (.tup (sT ps)),.fz (.lst (sT xs)),s3,s4],?_⟩
   unfold whD
   rw[et,decide_eq_true h0]
   rfl
  ·have ef:fta m ps (k+1) xs=match (zN m xs).find? (isApart ps) with|some x=>some x|none=>fta m ps k ((zN m xs).filter (isInner ps)):=by
    rw[fta.eq_2,if_neg h0]
    all_goals (cases (zN m xs).find? (isApart ps) <;>rfl)
   rw[decide_eq_false h0] at et
   have hLs:L≤30:=by
    cases xs with
    | nil=>exact absurd rfl h0
    | cons x xs =>
     obtain⟨e1,e2⟩:=hx x (.head _)
     rcases e2 with e2|e2
     ·omega
     ·have:=inner_len e2 h8;omega
   have hcnt:xs.length≤ps.length+1:=by
    rcases Nat.eq_zero_or_pos L with z|z
    ·have:xs.length≤([[]]:List (List Nat)).length:=hn.length_le_of_subset fun x hxx=>by
      rw[List.length_eq_zero_iff.mp ((hx x hxx).1.trans z)];exact .head _
     simp at this;omega
    ·have:xs.length≤(ps.map fun p=>p.take L).length:=hn.length_le_of_subset fun x hxx=>by
      obtain⟨e1,e2⟩:=hx x hxx
      rcases e2 with e2|e2
      ·omega
      ·obtain⟨p,hp,q1,_⟩:=inner_iff.mp e2
       refine List.mem_map.mpr ⟨p,hp,?_⟩
       rw[← e1];exact(List.prefix_iff_eq_take.mp q1).symm
     rw[List.length_map] at this;omega
   have R:=fta_round (m:=m) (ps:=ps) (by omega) xs (fun x q=>by have:=(hx x q).1;omega) (by omega) s3 s4
   rw[ef]
   cases hf:(zN m xs).find? (isApart ps) with
   | some x =>
    rw[hf] at R
    show whD _ _ (n'+1) _=_
    unfold whD
    rw[et]
    simp only[Bool.not_false]
    rw[R]
   | none =>
    rw[hf] at R
    obtain⟨s3',s4',R⟩:=R
    have hx':∀x∈(zN m xs).filter (isInner ps),x.length=L+1∧(L+1=0∨isInner ps x=true):=fun x q=>by
     obtain⟨q1,q2⟩:=List.mem_filter.mp q
     obtain⟨y,hy,c,hc,rfl⟩:=goneOn_mem q1
     exact⟨by rw[List.length_append,(hx y hy).1];rfl,.inr q2⟩
    have hn':((zN m xs).filter (isInner ps)).Nodup:=(goneOn_nd m hn).filter _
    have:=ih (L+1) n' _ s3' s4' (by omega) hx' hn' (by omega)
    have es:whD (bT (f2 (eqD true) (fNm 2) (fO mkL zE))) (zQ (yM 3 (fA (ari 2 yG) (zj (fNm 0) (zj (fNm 2) zE)))) (zQ (sFor 4 (fI lsD (fNm 3)) (sIf (bT (fA (ari 2 zT) (zj (fNm 1) (zj (fNm 4) zE)))) (yI (fNm 4)) sNx)) (sSetA 2 (fCp (fI lsD (fNm 3)) (bT (fA (ari 2 zU) (zj (fNm 1) (zj (fNm 0) zE)))) (fNm 0) [1])))) (n'+1) [.fz (.int m),.fz (.tup (sT ps)),.fz (.lst (sT xs)),s3,s4]=whD (bT (f2 (eqD true) (fNm 2) (fO mkL zE))) (zQ (yM 3 (fA (ari 2 yG) (zj (fNm 0) (zj (fNm 2) zE)))) (zQ (sFor 4 (fI lsD (fNm 3)) (sIf (bT (fA (ari 2 zT) (zj (fNm 1) (zj (fNm 4) zE)))) (yI (fNm 4)) sNx)) (sSetA 2 (fCp (fI lsD (fNm 3)) (bT (fA (ari 2 zU) (zj (fNm 1) (zj (fNm 0) zE)))) (fNm 0) [1])))) n' [.fz (.int m),.fz (.tup (sT ps)),.fz (.lst (sT ((zN m xs).filter (isInner ps)))),s3',s4']:=by
     rw[whD.eq_2,et]
     simp only[Bool.not_false]
     rw[R]
    simp only[es]
    exact this
theorem first_text_eq {m:Nat}(m4:m≤4){ps:List (List Nat)}(hl:ps.length≤10000)(h8:∀p∈ps,p.length≤31):yC [.int m,.tup (sT ps)]=.ok (match firstText m ps with|some x=>.str x|none=>.non):=by
 have:=fta_loop m4 hl h8 32 0 2000 [[]] .no .no rfl (fun x hx=>by rw[List.mem_singleton.mp hx];exact⟨rfl,.inl rfl⟩) (by decide) (by decide)
 unfold firstText
 cases hf:fta m ps 32 [[]] with
 | some x =>
  rw[hf] at this
  refine zV ?_
  exact(zA (ρ':=[.fz (.int m),.fz (.tup (sT ps)),.fz (.lst (sT [[]])),.no,.no]) rfl).trans (sSeq_rt (cutX_rt this))
 | none =>
  rw[hf] at this
  obtain⟨ρ',e⟩:=this
  refine zV ?_
  exact(zA (ρ':=[.fz (.int m),.fz (.tup (sT ps)),.fz (.lst (sT [[]])),.no,.no]) rfl).trans ((zA (cutX_nx e)).trans rfl)
def papD (m:Nat)(ps:List (List Nat)):D:=match firstPair ps with
 | some x=>.tup [.str x.1,.str x.2]
 | none=>(match firstText m ps with|some x=>.str x|none=>.non)
theorem first_paper_eq {m:Nat}(m4:m≤4){ps:List (List Nat)}(hl:ps.length≤10000)(h8:∀p∈ps,p.length≤31):fn_first_paper [.int m,.tup (sT ps)]=.ok (papD m ps):=by
 refine zV ?_
 show g_first_paper [.fz (.int m),.fz (.tup (sT ps)),.no]=_
 unfold g_first_paper papD
 cases hf:firstPair ps with
 | some x =>
  have e1:yM 2 (fA (ari 1 yD) (zj (fNm 1) zE)) [.fz (.int m),.fz (.tup (sT ps)),.no]=.nx [.fz (.int m),.fz (.tup (sT ps)),.fz (.tup [.str x.1,.str x.2])]:=zF (d:=.tup [.str x.1,.str x.2]) (by
   show yD [.tup (sT ps)]=_
   rw[first_pair_eq,hf])
  exact(zA e1).trans (sSeq_rt rfl)
 | none =>
  have e1:yM 2 (fA (ari 1 yD) (zj (fNm 1) zE)) [.fz (.int m),.fz (.tup (sT ps)),.no]=.nx [.fz (.int m),.fz (.tup (sT ps)),.fz .non]:=zF (d:=.non) (by
   show yD [.tup (sT ps)]=_
   rw[first_pair_eq,hf])
  refine(zA e1).trans ((zA (ρ':=[.fz (.int m),.fz (.tup (sT ps)),.fz .non]) rfl).trans (yE ?_))
  show yC [.int m,.tup (sT ps)]=_
  rw[first_text_eq m4 hl h8]
theorem pap_none {m:Nat}{ps:List (List Nat)}:isN false (papD m ps)=some (.bl ((firstPair ps).isNone&&(firstText m ps).isNone)):=by
 unfold papD
 cases firstPair ps with
 | some x=>rfl
 | none=>cases firstText m ps <;>rfl
theorem is_book_eq {m:Nat}{ps:List (List Nat)}(h:Pcs m ps):fn_is_book [.int m,.tup (sT ps)]=.ok (.bl (isBook m ps)):=by
 have h8:∀p∈ps,p.length≤31:=fun p q=>(h.2.2.2.2 p q).2.2
 have hl:ps.length≤10000:=by have:=h.2.2.2.1;omega
 refine zV (yE ?_)
 show(fn_are_pieces [.int m,.tup (sT ps)]).bind (fun a=>(tru a).bind fun b=>if b=true then(fn_first_paper [.int m,.tup (sT ps)]).bind (fun a=>lf (isN false a)) else .ok (.bl false))=_
 rw[are_pieces_eq h,first_paper_eq h.2.1 hl h8]
 show(if rising ps=true then lf (isN false (papD m ps)) else Rs.ok (D.bl false))=_
 rw[pap_none]
 unfold isBook
 cases rising ps <;>simp[lf]
theorem require_book_eq {m:Nat}{ps:List (List Nat)}(h:Pcs m ps)(hr:isBook m ps=true):yx [.int m,.tup (sT ps)]=.ok .non:=by
 refine runD_nx (ρ:=[.fz (.int m),.fz (.tup (sT ps))]) ?_
 refine(sIf_f ?_).trans rfl
 show((fn_is_book [.int m,.tup (sT ps)]).bind tru).bind (fun b=>Rs.ok !b)=_
 rw[is_book_eq h,hr];rfl
def dK (ks:List (List Nat)):List (List Nat×D):=ks.map fun k=>(k,.bl true)
def cellF (ns:List Int)(k:Int):Int:=if ns=[] then 7*k else ns.getD (k % ns.length).toNat 0+6553*(k / ns.length)
def drawnF (ns:List Int)(k m:Int):Int :=
 let c1:=(cellF ns k % 2147483563*69069+104723*(k+1)) % 2147483563
 let c2:=(c1*c1+c1 / 3) % 2147483399
 (c2*c2+c2 / 7) % 2147483647 / 11 % m
theorem drawn_range (ns:List Int)(k:Int){m:Int}(hm:0<m):0≤drawnF ns k m∧drawnF ns k m<m:=by
 unfold drawnF
 exact⟨Int.emod_nonneg _ (by omega),Int.emod_lt_of_pos _ (by omega)⟩
def scD (ns:List Int):D:=.lst (ns.map .int)
theorem pls_ints:∀ns:List Int,D.pls (ns.map .int)=true
 | []=>rfl
 | n::ns=>by show((D.int n).pl&&D.pls (ns.map .int))=true;rw[pls_ints ns];rfl
theorem dep_ints:∀ns:List Int,PyData.depthAll (D.pys (ns.map .int))=0
 | []=>rfl
 | n::ns=>by show max 0 (PyData.depthAll (D.pys (ns.map .int)))=0;rw[dep_ints ns];rfl
theorem eqD_script (ns:List Int):eqD false (scD ns) (.lst [])=some (.bl (decide (ns=[]))):=by
 have h:(scD ns).pl=true∧(D.lst []).pl=true∧(scD ns).py.depth≤60:=⟨pls_ints ns,rfl,by show PyData.depthAll (D.pys (ns.map .int))+1≤60;rw[dep_ints];omega⟩
 unfold eqD
 rw[if_pos h]
 cases ns <;>rfl
theorem cell_eq (ns:List Int)(hn:ns.length≤63)(k:Int)(h0:0≤k)(h1:k<1000):fn__law_cell [scD ns,.int k]=.ok (.int (cellF ns k)):=by
 refine zV ?_
 show g__law_cell [.fz (scD ns),.fz (.int k)]=_
 unfold g__law_cell cellF
 have e1:(bT (f2 (eqD false) (fNm 0) (fO mkL zE))) [.fz (scD ns),.fz (.int k)]=.ok (decide (ns=[])):=by
  show(lf (eqD false (scD ns) (.lst []))).bind tru=_
  rw[eqD_script];rfl
 by_cases h:ns=[]
 ·rw[decide_eq_true h] at e1
  rw[if_pos h]
  exact sSeq_rt ((sIf_t e1).trans (yE (mulI_ok rfl rfl (sm_of (by omega)) (sm_of (by omega)))))
 ·rw [decide_eq_false h] at e1
  rw[if_neg h]
  refine(zA (ρ':=[.fz (scD ns),.fz (.int k)]) ((sIf_f e1).trans rfl)).trans (yE ?_)
  have hl:0<ns.length:=List.length_pos_iff.mpr h
  have el:fO lenD (zj (fNm 0) zE) [.fz (scD ns),.fz (.int k)]=.ok (.int (ns.length:Int)):=by
   show Rs.ok (D.int ((ns.map D.int).length:Int))=_
   rw[List.length_map]
  have hp:(0:Int)<(ns.length:Int):=by omega
  have r1:=Int.emod_nonneg k (show(ns.length:Int)≠0 by omega)
  have r2:=Int.emod_lt_of_pos k hp
  have hd:0≤k / (ns.length:Int):=Int.ediv_nonneg h0 (by omega)
  have hd2:k / (ns.length:Int)≤k:=Int.ediv_le_self _ h0
  obtain⟨j,hj⟩:=Int.eq_ofNat_of_zero_le r1
  have hjl:j<ns.length:=by omega
  have ei:f2 ixD (fNm 0) (f2 modI (fNm 1) (fO lenD (zj (fNm 0) zE))) [.fz (scD ns),.fz (.int k)]=.ok (.int (ns.getD (k % (ns.length:Int)).toNat 0)):=by
   refine zR (a:=scD ns) (b:=.int (k % (ns.length:Int))) rfl (modI_ok rfl el hp) ?_
   show atI (ns.map D.int) (k % (ns.length:Int))=_
   rw[hj]
   have:=atI_nat (xs:=ns.map D.int) (j:=j) (v:=.int ns[j]) (by rw[List.getElem?_map,List.getElem?_eq_getElem hjl];rfl)
   rw[this,Int.toNat_natCast,List.getD_eq_getElem?_getD,List.getElem?_eq_getElem hjl];rfl
  exact addI_ok ei (mulI_ok rfl (fdivI_ok rfl el hp (sm_of (by omega))) (sm_of (by omega)) (sm_of (by omega)))
theorem drawn_eq (ns:List Int)(hn:ns.length≤63)(k m:Int)(h0:0≤k)(h1:k<1000)(hm:0<m):zZ [scD ns,.int k,.int m]=.ok (.int (drawnF ns k m)):=by
 refine zV ?_
 show g__law_drawn [.fz (scD ns),.fz (.int k),.fz (.int m),.no]=_
 have hD:∀c1 c2,(cellF ns k % 2147483563*69069+104723*(k+1)) % 2147483563=c1→(c1*c1+c1 / 3) % 2147483399=c2→drawnF ns k m=(c2*c2+c2 / 7) % 2147483647 / 11 % m:=by
  rintro _ _ rfl rfl;rfl
 unfold g__law_drawn
 have ec:fA (ari 2 fn__law_cell) (zj (fNm 0) (zj (fNm 1) zE)) [.fz (scD ns),.fz (.int k),.fz (.int m),.no]=.ok (.int (cellF ns k)):=cell_eq ns hn k h0 h1
 have a1:=Int.emod_nonneg (cellF ns k) (show(2147483563:Int)≠0 by decide)
 have a2:=Int.emod_lt_of_pos (cellF ns k) (show(0:Int)<2147483563 by decide)
 generalize hc1:(cellF ns k % 2147483563*69069+104723*(k+1)) % 2147483563=c1
 have b1:0≤c1:=hc1▸Int.emod_nonneg _ (by decide)
 have b2:c1<2147483563:=hc1▸Int.emod_lt_of_pos _ (by decide)
 refine(zA (ρ':=[.fz (scD ns),.fz (.int k),.fz (.int m),.fz (.int c1)]) ?_).trans ?_
 ·rw[← hc1]
  exact zF (modI_ok (addI_ok (mulI_ok (modI_ok ec rfl (by decide)) rfl (sm_of (by omega)) (sm_of (by decide))) (mulI_ok rfl (addI_ok rfl rfl) (sm_of (by decide)) (sm_of (by omega)))) rfl (by decide))
 generalize hc2:(c1*c1+c1 / 3) % 2147483399=c2
 have d1:0≤c2:=hc2▸Int.emod_nonneg _ (by decide)
 have d2:c2<2147483399:=hc2▸Int.emod_lt_of_pos _ (by decide)
 refine(zA (ρ':=[.fz (scD ns),.fz (.int k),.fz (.int m),.fz (.int c2)]) ?_).trans ?_
 ·rw[← hc2]
  exact zF (modI_ok (addI_ok (mulI_ok rfl rfl (sm_of (by omega)) (sm_of (by omega))) (fdivI_ok rfl rfl (by decide) (sm_of (by decide)))) rfl (by decide))
 rw[hD c1 c2 hc1 hc2]
 exact yE (modI_ok (fdivI_ok (modI_ok (addI_ok (mulI_ok rfl rfl (sm_of (by omega)) (sm_of (by omega))) (fdivI_ok rfl rfl (by decide) (sm_of (by decide)))) rfl (by decide)) rfl (by decide) (sm_of (by decide))) rfl hm)
theorem ix_abcd {j:Nat}(h:j<4):ixD (.str [97,98,99,100]) (.int (j:Int))=some (.str [abcd.getD j 0]):=by
 have e:j=0∨j=1∨j=2∨j=3:=by omega
 rcases e with rfl|rfl|rfl|rfl <;>rfl
def bkF (ns:List Int)(at':Nat)(m:Nat):Nat→List (List Nat)
 | 0=>kids m []
 | t+1=>part m (bkF ns at' m t) (drawnF ns ((at':Int)+(t:Int)) ((bkF ns at' m t).length:Int)).toNat
theorem bkF_gr (ns:List Int)(at':Nat){m:Nat}(m2:2≤m)(m4:m≤4):∀t:Nat,My.Gr m t (bkF ns at' m t)
 | 0=>.z
 | t+1=>by
  have g:=bkF_gr ns at' m2 m4 t
  have hl:=g.len m2 m4
  have hd:=drawn_range ns ((at':Int)+(t:Int)) (m:=((bkF ns at' m t).length:Int)) (by rw[hl];omega)
  exact .s g (by omega)
theorem kids_eq (m:Nat)(m4:m≤4)(p:List Nat):kids m p=(List.range m).map fun i=>p++[abcd.getD i 0]:=by
 unfold kids
 have:∀m≤4,abcd.take m=(List.range m).map fun i=>abcd.getD i 0:=by decide
 rw[this m m4,List.map_map];rfl
theorem sortD_lst {ls:List (List Nat)}(h:ls.length<64):sortD [.lst (sT ls)]=some (sT (sortF ls)):=by
 dsimp only [sortD]
 unfold sortL
 rw[if_pos ⟨all_isS ls,by rw[yK];exact h⟩,map_unS];rfl
theorem sT_erase (ls:List (List Nat))(k:Nat):(sT ls).eraseIdx k=sT (ls.eraseIdx k):=by
 exact erase_map D.str ls k
theorem book_eq (ns:List Int)(hn:ns.length≤63)(at':Nat){m:Nat}(m2:2≤m)(m4:m≤4)(t:Nat)(ht:t≤8)(hat:at'≤900):fn__law_book [scD ns,.int at',.int m,.int t]=.ok (.tup (sT (bkF ns at' m t))):=by
 have e0:fCp (fR rng1 (zj (fNm 2) zE)) bTrue (f2 ixD (fC (.str [97,98,99,100])) (fNm 0)) [] [.fz (scD ns),.fz (.int at'),.fz (.int m),.fz (.int t),.no,.no,.no]=.ok (sT (kids m [])):=by
  refine fCp_ok (fR_ok (ds:=[.int (m:Int)]) rfl (rng1_nat (by omega))) (by rw[List.length_map,List.length_range];omega) ?_
  rw[kids_eq m m4]
  have:=yQ (fe:=f2 ixD (fC (.str [97,98,99,100])) (fNm 0)) (ρ0:=[.no]) (l:=List.range m) (enc:=fun(k:Nat)=>D.int (k:Int)) (fun i=>.str ([]++[abcd.getD i 0])) fun i hi=>zR (a:=.str [97,98,99,100]) (b:=.int (i:Int)) rfl rfl (ix_abcd (by have:=List.mem_range.mp hi;omega))
  unfold sT
  rw[List.map_map]
  exact this
 have loop:=forD_inv (i:=5) (g:=zQ (sPop 4 6 (fFl 4 (fA (ari 3 zZ) (zj (fNm 0) (zj (f2 addI (fNm 1) (fNm 5)) (zj (fO lenD (zj (fNm 4) zE)) zE)))))) (sIce 4 (sSetO 4 (fL sortD (zj (fLs (fL2 catD (fNm 4) (xJ (fR rng1 (zj (fNm 2) zE)) bTrue (f2 addS (fNm 1) (f2 ixD (fC (.str [97,98,99,100])) (fNm 0))) [6]))) zE))))) (l:=List.range t) (enc:=fun(k:Nat)=>D.int (k:Int)) (ρ:=[.fz (scD ns),.fz (.int at'),.fz (.int m),.fz (.int t),.ow (sT (kids m [])),.no,.no])
  (fun k ρ=>∃s s',ρ=[.fz (scD ns),.fz (.int at'),.fz (.int m),.fz (.int t),.ow (sT (bkF ns at' m k)),s,s']) ⟨.no,.no,rfl⟩ (fun k c ρ hc ⟨s,s',e⟩=>by
   subst e
   have hk:k<t:=by have:=(List.getElem?_eq_some_iff.mp hc).1;simpa using this
   have ec:c=k:=by rw[List.getElem?_range hk] at hc;exact(Option.some.inj hc).symm
   subst ec
   have g:=bkF_gr ns at' m2 m4 c
   have hl:=g.len m2 m4
   have hsh:=g.short m2 m4
   have hll:(bkF ns at' m c).length≤28:=by
    rw[hl]
    have:c*(m - 1)≤8*3:=Nat.mul_le_mul (by omega) (by omega)
    omega
   have hpos:0<(bkF ns at' m c).length:=by rw[hl];omega
   have hd:=drawn_range ns ((at':Int)+(c:Int)) (m:=((bkF ns at' m c).length:Int)) (by omega)
   obtain⟨j,hj⟩:=Int.eq_ofNat_of_zero_le hd.1
   rw[hj] at hd
   have hjl:j<(bkF ns at' m c).length:=by omega
   have eB:bkF ns at' m (c+1)=part m (bkF ns at' m c) j:=by
    show part m (bkF ns at' m c) (drawnF ns ((at':Int)+(c:Int)) ((bkF ns at' m c).length:Int)).toNat=_
    rw[hj];rfl
   rw[eB]
   generalize hB:bkF ns at' m c=B at *
   have ed:fFl 4 (fA (ari 3 zZ) (zj (fNm 0) (zj (f2 addI (fNm 1) (fNm 5)) (zj (fO lenD (zj (fNm 4) zE)) zE)))) [.fz (scD ns),.fz (.int at'),.fz (.int m),.fz (.int t),.ow (sT B),.fz (.int (c:Int)),s']=.ok (.int (j:Int)):=by
    refine fFl_ok rfl ?_ rfl
    show zZ [scD ns,.int ((at':Int)+(c:Int)),.int ((sT B).length:Int)]=_
    rw[yK,← hj]
    exact drawn_eq ns hn _ _ (by omega) (by omega) (by omega)
   have ep:(sT B)[j]? = some (.str B[j]):=by unfold sT;rw[List.getElem?_map,List.getElem?_eq_getElem hjl];rfl
   have eg:B.getD j []=B[j]:=by rw[List.getD_eq_getElem?_getD,List.getElem?_eq_getElem hjl];rfl
   have hp8:=hsh B[j] (List.getElem_mem hjl)
   refine⟨_,(zA (sPop_ok rfl ed (by omega) ep)).trans ?_,.fz (.int (c:Int)),.fz (.str B[j]),rfl⟩
   rw[sT_erase]
   refine(sIce_ok (ds:=sT (B.eraseIdx j)) rfl).trans ?_
   refine(sSetO_ok (d:=sT (part m B j)) ?_).trans rfl
   have ek:xJ (fR rng1 (zj (fNm 2) zE)) bTrue (f2 addS (fNm 1) (f2 ixD (fC (.str [97,98,99,100])) (fNm 0))) [6] [.fz (scD ns),.fz (.int at'),.fz (.int m),.fz (.int t),.fz (.lst (sT (B.eraseIdx j))),.fz (.int (c:Int)),.fz (.str B[j])]=.ok (.lst (sT (kids m B[j]))):=by
    refine fComp_ok (fR_ok (ds:=[.int (m:Int)]) rfl (rng1_nat (by omega))) (by rw[List.length_map,List.length_range];omega) ?_
    rw[kids_eq m m4]
    have:=yQ (fe:=f2 addS (fNm 1) (f2 ixD (fC (.str [97,98,99,100])) (fNm 0))) (ρ0:=[.no,.fz (.str B[j])]) (l:=List.range m) (enc:=fun(k:Nat)=>D.int (k:Int)) (fun i=>.str (B[j]++[abcd.getD i 0])) fun i hi=>zR (a:=.str B[j]) (b:=.str [abcd.getD i 0]) rfl (zR (a:=.str [97,98,99,100]) (b:=.int (i:Int)) rfl rfl (ix_abcd (by have:=List.mem_range.mp hi;omega))) (addS_ok (by show B[j].length+1≤_;omega))
    unfold sT
    rw[List.map_map]
    exact this
   have el:(B.eraseIdx j++kids m B[j]).length<64:=by
    rw[List.length_append,kids_len m m4,List.length_eraseIdx,if_pos hjl];omega
   have ecat:fL2 catD (fNm 4) (xJ (fR rng1 (zj (fNm 2) zE)) bTrue (f2 addS (fNm 1) (f2 ixD (fC (.str [97,98,99,100])) (fNm 0))) [6]) [.fz (scD ns),.fz (.int at'),.fz (.int m),.fz (.int t),.fz (.lst (sT (B.eraseIdx j))),.fz (.int (c:Int)),.fz (.str B[j])]=.ok (sT (B.eraseIdx j++kids m B[j])):=by
    unfold fL2
    rw[ek]
    show lf' (catD (.lst (sT (B.eraseIdx j))) (.lst (sT (kids m B[j]))))=_
    dsimp only [catD]
    rw[if_pos (by rw[yK,yK,← List.length_append];omega),sT_app];rfl
   refine fL_ok (zJ (fLs_ok ecat) rfl) ?_
   rw[sortD_lst el]
   unfold part
   rw[eg])
 obtain⟨ρ',e,s,s',rfl⟩:=loop
 rw[List.length_range] at e
 refine zV ?_
 show g__law_book [.fz (scD ns),.fz (.int at'),.fz (.int m),.fz (.int t),.no,.no,.no]=_
 unfold g__law_book
 refine(zA (sSetO_ok e0)).trans ((zA (cutX_nx ((sFor_ok (fR_ok (ds:=[.int (t:Int)]) rfl (rng1_nat (by omega)))).trans e))).trans ?_)
 rfl
end Pg
set_option maxHeartbeats 4000000
namespace Pg
open PySem L2 PyProof.Rows
end Pg
set_option maxHeartbeats 1000000
namespace L2
open PySem PySem.Spec PyProof.Rows
section
variable {cl:Nat→Addr}
theorem Dks.len {K:PySem.W.Frag}{F:Hp}:∀{vs:List (Key×V)}{ds:List (List Nat×D)},Dks K cl F vs ds→vs.length=ds.length
 | _,_,.nil=>rfl
 | _,_,.cons _ _ t=>by rw[List.length_cons,List.length_cons,t.len]
end
end L2
namespace L2
open PySem PySem.Spec PyProof.Rows
section
variable {cl:Nat→Addr}
end
end L2
set_option maxHeartbeats 2000000
namespace Zp
open PySem
end Zp
namespace L2
open PySem PySem.Spec PyProof.Rows
end L2
set_option maxHeartbeats 1000000
namespace L2
open PySem PySem.Spec PyProof.Rows
open PySem.Builtin.Str (occurrences)
end L2
namespace L2
open PySem PySem.W PyProof.Rows
section
variable {X:Cx}{pos:Pos}
variable {pins:List (Addr×Obj)}{σ:St}{H:Hp}{s:Shared}{a b:Addr}{A:Around}{E:Value→Shared→Prop}{kvs:List (List Key×Addr)}{k:List Key}
theorem key_sq (I:Inv X pins σ H s)(e:SqT X.K H b (k.map kV)):(tupleKind (yg X.prog X.w)).is s.heap k b:=by
 obtain⟨its,r,⟨o,h1,h2,n,h3⟩,_⟩:=I.tuple e
 exact⟨o,its.toArray,n,h1,h2,h3,by simpa using items_are r⟩
end
def DRaw (h:Heap)(d:Addr)(es:Array DictEntry)(ep:Nat):Prop:=∃o,h.get? d=some o∧o.ExactDict∧o.data=.dict es ep
section
variable {prog:Program}{w:World}{A:Around}{E:Value→Shared→Prop}{s:Shared}{d it:Addr}{es:Array DictEntry}{ep i:Nat}
theorem DRaw.ty (D:DRaw s.heap d es ep):s.TypeIs (.ref d) "dict" := let ⟨o,h,c,_⟩:=D;⟨o,h,c.1⟩
theorem mid_old {h:Heap}{L b:Addr}{vs:List Value}{o:Obj}(ne:b≠L)(e:h.get? b=some o):(sortMid h L vs).get? b=some o:=by
 have lt:(b:Nat)<h.objs.size:=Heap.lt_size e
 rw[Heap.get?_push_ne _ _ _ (by rw[size_push',Heap.size_update];exact Nat.ne_of_lt (Nat.lt_succ_of_lt lt)),Heap.get?_push_ne _ _ _ (by rw[Heap.size_update];exact Nat.ne_of_lt lt),Heap.get?_update_ne _ _ _ _ ne]
 exact e
theorem sort_tups {L:Addr}{ts:List Addr}{kss:List (List Key)}{n:Nat}{P:PySem.Fin→Shared→Prop}(ho:s.heap.get? L=some (seqObj "list" (ts.map Value.ref).toArray n))(hl:ts.length=kss.length)(ne:∀t∈ts,t≠L)
  (tup:∀i,i<kss.length→∃vs:List Value,Vals ((kss.getD i []).map kV) vs∧∃o,s.heap.get? (ts.getD i 0)=some o∧o.cls=.type "tuple" ∧ ∃n,o.data=.seq vs.toArray n) (sb:Srtb kss) (h64:kss.length<64)
  (h:∀p,PP kss.length p→Sd (fun i j=>ksLt (kss.getD i []) (kss.getD j [])) kss.length p→P (.done (.ret .none)) {s with heap:=sortedHeap s.heap L (ts.map Value.ref) (List.toArray (p.toList.map fun i=>(ts.map Value.ref).getD i Value.none))}) :
  wpAny (model prog w) A (Builtin.«list.sort» ⟨[.ref L],[]⟩) P E s:=by
 have hl':(ts.map Value.ref).length=kss.length:=by rw[List.length_map];exact hl
 have gt:∀i,i<kss.length→(ts.map Value.ref).getD i Value.none=.ref (ts.getD i 0):=fun i hi=>by
  rw[List.getD_eq_getElem?_getD,List.getD_eq_getElem?_getD,List.getElem?_map,List.getElem?_eq_getElem (by omega)];rfl
 have mt:∀i,i<kss.length→ts.getD i 0∈ts:=fun i hi=>by rw[List.getD_eq_getElem?_getD,List.getElem?_eq_getElem (by omega)];exact List.getElem_mem (by omega)
 have mem:∀i,i<kss.length→kss.getD i []∈kss:=fun i hi=>by rw[List.getD_eq_getElem?_getD,List.getElem?_eq_getElem hi];exact List.getElem_mem hi
 obtain⟨c,hne⟩:=sb.ne
 have O:=sb.ord
 rw[← hl'] at O
 refine list_sort_treeA (κ:=tuples' true) ho O (fun h2 Q q=>?_) (fun i j C hi hj q=>?_) (by omega) fun p hp sd=>h p (hl'▸hp) (hl'▸sd)
 ·have key:∀(l:List Nat),(∀i∈l,i<kss.length)→∃fs:List Value,KatTups (sortMid s.heap L (ts.map Value.ref)) (l.map fun i=>(ts.map Value.ref).getD i Value.none) fs∧fs.length=l.length∧∀v∈fs,if c then ∃n t,v=.int n t else ∃x t,v=.str x t:=by
   intro l
   induction l with
   | nil=>exact fun _=>⟨[],KatTups.nil,rfl,fun v hv=>by cases hv⟩
   | cons i l ih =>
    intro hm
    obtain⟨fs,k1,k2,k3⟩:=ih fun j hj=>hm j (List.mem_cons_of_mem _ hj)
    have hi:=hm i List.mem_cons_self
    obtain⟨vs,r1,o,g,hcl,n,hd⟩:=tup i hi
    obtain⟨k,rr,e,kc⟩:=hne _ (mem i hi)
    rw[e,List.map_cons] at r1
    cases r1 with
    | cons rp r1 =>
     rename_i f vs'
     refine⟨f::fs,?_,by simp[k2],fun v hv=>?_⟩
     ·rw[List.map_cons,gt i hi]
      exact KatTups.cons (mid_old (ne _ (mt i hi)) g) hcl hd (by simp) k1
     ·rcases List.mem_cons.mp hv with rfl|hv
      ·cases k with
       | inl z=>obtain⟨t,rfl⟩:=rp;rw[← kc];exact⟨z,t,rfl⟩
       | inr z=>obtain⟨t,rfl⟩:=rp;rw[← kc];exact⟨z,t,rfl⟩
      ·exact k3 v hv
  obtain⟨fs,k1,k2,k3⟩:=key (List.range (ts.map Value.ref).length) fun i hi=>by have:=List.mem_range.mp hi;omega
  have e:(List.range (ts.map Value.ref).length).map (fun i=>(ts.map Value.ref).getD i Value.none)=ts.map Value.ref:=by
   apply List.ext_getElem
   ·simp
   ·intro i h1 h2
    have h2':i<ts.length:=by simpa using h2
    simp[h2']
  rw[e] at k1
  rw[List.length_range] at k2
  cases c with
  | true =>
   refine kat_kind (T:=.type "int") k1 (by omega) (fun v hv=>?_) rfl q
   obtain⟨n,t,rfl⟩:=k3 v hv
   exact .now
  | false =>
   refine kat_kind (T:=.type "str") k1 (by omega) (fun v hv=>?_) rfl q
   obtain⟨n,t,rfl⟩:=k3 v hv
   exact .now
 ·rw[hl'] at hi hj
  obtain⟨vi,ri,oi,gi,hci,ni,hdi⟩:=tup i hi
  obtain⟨vj,rj,oj,gj,hcj,nj,hdj⟩:=tup j hj
  unfold kas_ask
  rw[gt i hi,gt j hj]
  have li:=ri.length
  have lj:=rj.length
  simp only[List.length_map] at li lj
  refine kat_lt (s:={s with heap:=sortMid s.heap L (ts.map Value.ref)}) (mid_old (ne _ (mt i hi)) gi) hdi (mid_old (ne _ (mt j hj)) gj) hdj (kat_lex _ _ _ _ 0 ri rj (sb.ok _ (mem i hi) _ (mem j hj)) ?_ q)
  rw[List.size_toArray,List.size_toArray,li,lj]
end
end L2
namespace L2
open PySem PySem.W PySem.Spec PyProof.Rows
def atEq:D→D→Bool
 | .int i,.int j=>decide (i=j)
 | .str a,.str b=>decide (a=b)
 | _,_=>false
def atsEq:List D→List D→Bool
 | [],[]=>true
 | x::xs,y::ys=>atEq x y&&atsEq xs ys
 | _,_=>false
def tpEq (a b:D):Bool:=atsEq (tOf a) (tOf b)
theorem atEq_iff:∀{a b:D},isAt a=true→isAt b=true→(atEq a b=true↔kOf a=kOf b)
 | .int i,.int j,_,_=>by simp[atEq,kOf]
 | .str a,.str b,_,_=>by
  simp only[atEq,kOf,decide_eq_true_eq,Sum.inr.injEq]
  exact⟨fun e=>e▸rfl,fun e=>T_inj e⟩
 | .int i,.str b,_,_=>by simp[atEq,kOf]
 | .str a,.int j,_,_=>by simp[atEq,kOf]
 | .non,_,h,_=>by simp[isAt] at h
 | .bl _,_,h,_=>by simp[isAt] at h
 | .lst _,_,h,_=>by simp[isAt] at h
 | .tup _,_,h,_=>by simp[isAt] at h
 | .dct _,_,h,_=>by simp[isAt] at h
 | .exc _,_,h,_=>by simp[isAt] at h
 | .int _,.non,_,h=>by simp[isAt] at h
 | .int _,.bl _,_,h=>by simp[isAt] at h
 | .int _,.lst _,_,h=>by simp[isAt] at h
 | .int _,.tup _,_,h=>by simp[isAt] at h
 | .int _,.dct _,_,h=>by simp[isAt] at h
 | .int _,.exc _,_,h=>by simp[isAt] at h
 | .str _,.non,_,h=>by simp[isAt] at h
 | .str _,.bl _,_,h=>by simp[isAt] at h
 | .str _,.lst _,_,h=>by simp[isAt] at h
 | .str _,.tup _,_,h=>by simp[isAt] at h
 | .str _,.dct _,_,h=>by simp[isAt] at h
 | .str _,.exc _,_,h=>by simp[isAt] at h
theorem atsEq_iff:∀{a b:List D},a.all isAt=true→b.all isAt=true→(atsEq a b=true↔a.map kOf=b.map kOf)
 | [],[],_,_=>by simp[atsEq]
 | [],_::_,_,_=>by simp[atsEq]
 | _::_,[],_,_=>by simp[atsEq]
 | x::xs,y::ys,h,k=>by
  rw[List.all_cons,Bool.and_eq_true] at h k
  rw[atsEq,Bool.and_eq_true,atEq_iff h.1 k.1,atsEq_iff h.2 k.2,List.map_cons,List.map_cons,List.cons.injEq]
theorem isTA_all {d:D}(h:isTA d=true):(tOf d).all isAt=true:=by
 cases d with
 | tup ds=>exact h
 | _=>cases h
theorem tpEq_iff {a b:D}(h:isTA a=true)(k:isTA b=true):tpEq a b=true↔kkOf a=kkOf b:=atsEq_iff (isTA_all h) (isTA_all k)
theorem any_tp {ks:List D}{k:D}(hk:isTA k=true)(h:∀d∈ks,isTA d=true):ks.any (tpEq k)=true↔kkOf k∈ks.map kkOf:=by
 rw[List.any_eq_true,List.mem_map]
 exact⟨fun⟨x,hx,e⟩=>⟨x,hx,((tpEq_iff hk (h x hx)).mp e).symm⟩,fun⟨x,hx,e⟩=>⟨x,hx,(tpEq_iff hk (h x hx)).mpr e.symm⟩⟩
section
variable {X:Cx}{cl:Nat→Addr}{E:XK}{e o a b c:Expr}{es:List Expr}{fa fb fc:Rho→Rs D}{fs:Rho→Rs (List D)}{x y:Str}{p pos:Pos}
theorem Dts.sq {K:PySem.W.Frag}{F:Hp}:∀{kvs:List (List Key×Addr)}{ks:List D},kvs.map (·.1)=ks.map kkOf→Dts K cl F (kvs.map fun q=>V.ref q.2) ks→(∀d∈ks,isTA d=true)→∀q∈kvs,SqT K F q.2 (q.1.map kV)
 | [],_,_,_,_=>fun q h=>by cases h
 | (k,a)::kvs,[],e,_,_=>by simp at e
 | (k, a)::kvs,d::ks,e,dt,ta=>fun q hq=>by
  rw[List.map_cons,List.map_cons,List.cons.injEq] at e
  rw[List.map_cons] at dt
  cases dt with
  | cons r t =>
   rcases List.mem_cons.mp hq with rfl|hq
   ·have h0:=ta d List.mem_cons_self
    have ek:k=kkOf d:=e.1
    show SqT K F a (k.map kV)
    cases r with
    | tup sq dq =>
     rename_i xs ds
     have ex:=dq.atoms h0
     rw[ek]
     show SqT K F a ((ds.map kOf).map kV)
     rw[← ex];exact sq
    | _=>cases h0
   ·exact Dts.sq e.2 t (fun d hd=>ta d (List.mem_cons_of_mem _ hd)) q hq
theorem Dtk.sq {K:PySem.W.Frag}{F:Hp}{kvs:List (List Key×Addr)}{ks:List D}(h:Dtk K cl F kvs ks):∀q∈kvs,SqT K F q.2 (q.1.map kV):=Dts.sq h.ky h.dt h.ta
theorem Dtk.len {K:PySem.W.Frag}{F:Hp}{kvs:List (List Key×Addr)}{ks:List D}(h:Dtk K cl F kvs ks):kvs.length=ks.length:=by have:=congrArg List.length h.ky;simpa using this
end
end L2
namespace L2
open PySem
def Msk (m:Nat):Prop:=m=7∨m=31∨m=127
def itr (f:Nat→Nat):Nat→Nat→Nat
 | 0,i=>i
 | n+1,i=>itr f n (f i)
theorem itr_add (f:Nat→Nat):∀(a b i:Nat),itr f (a+b) i=itr f b (itr f a i)
 | 0,b,i=>by rw[Nat.zero_add];rfl
 | a+1,b,i=>by rw[show a+1+b=(a+b)+1 by omega];exact itr_add f a b (f i)
def lp (m i:Nat):Nat:=(i*5+1) % (m+1)
def orb (m:Nat):Nat→Nat→List Nat
 | 0,_=>[]
 | n+1,i=>i::orb m n (lp m i)
theorem orb_mem {m:Nat}:∀{n i j:Nat},j∈orb m n i→∃k,k<n∧itr (lp m) k i=j
 | 0,i,j,h=>by cases h
 | n+1,i,j,h=>by
  rcases List.mem_cons.mp h with rfl|h
  ·exact⟨0,Nat.zero_lt_succ _,rfl⟩
  ·obtain⟨k,h1,h2⟩:=orb_mem h
   exact⟨k+1,by omega,h2⟩
theorem cyc0 {m:Nat}(h:Msk m):(∀j,j≤m→j∈orb m (m+1) 0)∧itr (lp m) (m+1) 0=0:=by
 have key:∀m,((List.range (m+1)).all fun j=>(orb m (m+1) 0).contains j)=true→∀j,j≤m→j∈orb m (m+1) 0:=fun m h j hj=>by
  have:=List.all_eq_true.mp h j (List.mem_range.mpr (by omega))
  simpa using this
 rcases h with rfl|rfl|rfl
 ·exact⟨key 7 (by decide +kernel),by decide +kernel⟩
 ·exact⟨key 31 (by decide +kernel),by decide +kernel⟩
 ·exact⟨key 127 (by decide +kernel),by decide +kernel⟩
theorem cyc {m:Nat}(h:Msk m){i j:Nat}(hi:i≤m)(hj:j≤m):∃n,n≤m∧itr (lp m) n i=j:=by
 obtain⟨c,z⟩:=cyc0 h
 obtain⟨a,a1,a2⟩:=orb_mem (c i hi)
 obtain⟨b,b1,b2⟩:=orb_mem (c j hj)
 rcases Nat.lt_or_ge b a with q|q
 ·refine⟨b+(m+1) - a,by omega,?_⟩
  rw[← a2,← itr_add,show a+(b+(m+1) - a)=(m+1)+b by omega,itr_add,z]
  exact b2
 ·refine⟨b - a,by omega,?_⟩
  rw[← a2,← itr_add,show a+(b - a)=b by omega]
  exact b2
def jmp (m:Nat):Nat→Nat×Nat→Nat×Nat
 | 0,p=>p
 | n+1,p=>jmp m n (SetTable.leap m p.1 p.2)
theorem jmp_pert (m:Nat):∀(n i p:Nat),(jmp m n (i,p)).2=p / 32 ^ n
 | 0,i,p=>by simp[jmp]
 | n+1,i,p=>by
  show(jmp m n (SetTable.leap m i p)).2=_
  unfold SetTable.leap
  rw[jmp_pert m n _ _,Nat.pow_succ,Nat.mul_comm,Nat.div_div_eq_div_mul]
theorem jmp_le {m:Nat}:∀(n:Nat) (p:Nat×Nat),p.1≤m→(jmp m n p).1≤m
 | 0,p,h=>h
 | n+1,p,h=>jmp_le n _ (by unfold SetTable.leap;exact Nat.le_of_lt_succ (Nat.mod_lt _ (Nat.succ_pos _)))
theorem jmp_zero (m:Nat):∀(n i:Nat),jmp m n (i,0)=(itr (lp m) n i,0)
 | 0,i=>rfl
 | n+1,i=>by
  show jmp m n (SetTable.leap m i 0)=_
  have:SetTable.leap m i 0=(lp m i,0):=by simp[SetTable.leap,lp]
  rw[this,jmp_zero m n]
  rfl
theorem jmp_add (m:Nat):∀(a b:Nat) (p:Nat×Nat),jmp m (a+b) p=jmp m b (jmp m a p)
 | 0,b,p=>by rw[Nat.zero_add];rfl
 | a+1,b,p=>by rw[show a+1+b=(a+b)+1 by omega];exact jmp_add m a b _
theorem bits_lt (h:Int):SetTable.bits h<2 ^ 64:=by
 unfold SetTable.bits
 have h1:=Int.emod_nonneg h (show(2 ^ 64:Int)≠0 by decide)
 have h2:=Int.emod_lt_of_pos h (show(0:Int)<2 ^ 64 by decide)
 omega
theorem jmp_all {m:Nat}(hm:Msk m){i p j:Nat}(hi:i≤m)(hp:p<2 ^ 64)(hj:j≤m):∃n,n≤m+13∧(jmp m n (i,p)).1=j:=by
 have z:(jmp m 13 (i,p)).2=0:=by
  rw[jmp_pert]
  exact Nat.div_eq_of_lt (Nat.lt_of_lt_of_le hp (by decide))
 have l:=jmp_le 13 (i,p) hi
 obtain⟨n,h1,h2⟩:=cyc hm l hj
 refine⟨13+n,by omega,?_⟩
 rw[jmp_add]
 have e:jmp m 13 (i,p)=((jmp m 13 (i,p)).1,0):=by rw[← z]
 rw[e,jmp_zero]
 exact h2
section
variable {t:SetTable}
theorem slot_live {j i:Nat}(h:t.slot j=.live i):t.place[i]? = some j:=by
 unfold SetTable.slot at h
 dsimp only at h
 split at h
 ·rename_i e
  injection h with h
  subst h
  simpa using e
 ·split at h <;>cases h
theorem has_nil (j:Nat):SetTable.has #[] j=false:=by simp[SetTable.has]
theorem slot_no (hd:t.dummies = #[])(j:Nat):(∃i,t.slot j=.live i)∨t.slot j=.empty:=by
 unfold SetTable.slot
 dsimp only
 split
 ·exact .inl ⟨_,rfl⟩
 ·rw[hd,has_nil];exact .inr rfl
theorem slot_free (hd:t.dummies = #[]){j:Nat}(h:j∉t.place.toList):t.slot j=.empty:=by
 rcases slot_no hd j with⟨i,e⟩|e
 ·have:=slot_live e
  exact absurd (by simpa using Array.mem_of_getElem? this) h
 ·exact e
theorem nd_le:∀{a b:List Nat},a.Nodup→(∀x∈a,x∈b)→a.length≤b.length
 | [],_,_,_=>Nat.zero_le _
 | x::a,b,h,k=>by
  obtain⟨h1,h2⟩:=List.nodup_cons.mp h
  have hx:=k x List.mem_cons_self
  have ih:=nd_le (b:=b.erase x) h2 fun y hy=>(List.mem_erase_of_ne (fun e:y=x=>h1 (e▸hy))).mpr (k y (List.mem_cons_of_mem _ hy))
  rw[List.length_erase_of_mem hx] at ih
  have:=List.length_pos_of_mem hx
  rw[List.length_cons]
  omega
theorem free_ex {l:List Nat}{m:Nat}(h:l.length≤m):∃j,j≤m∧j∉l:=by
 refine Classical.byContradiction fun z=>?_
 have all:∀j∈List.range (m+1),j∈l:=fun j hj=>Classical.byContradiction fun w=>z ⟨j,by have:=List.mem_range.mp hj;omega,w⟩
 have:=nd_le List.nodup_range all
 rw[List.length_range] at this
 omega
def prb (t:SetTable)(h:Int):Nat→SetTable.Probe
 | 0=>t.probeStart h
 | n+1=>t.advance (prb t h n)
theorem prb_run {h:Int}{n:Nat}:∀(k:Nat) (x:SetTable.Probe),prb t h n=x→k≤x.more→prb t h (n+k)={x with j:=x.j+k,more:=x.more - k}
 | 0,x,e,_=>e
 | k+1,x,e,hk=>by
  have ih:=prb_run k x e (by omega)
  show t.advance (prb t h (n+k))=_
  rw[ih]
  unfold SetTable.advance
  rw[if_pos (by show x.more - k > 0;omega)]
  show SetTable.Probe.mk _ _ _ _ _=SetTable.Probe.mk _ _ _ _ _
  congr 1
theorem prb_jmp {h:Int}:∀r,∃n,n≤10*r∧prb t h n={j:=(jmp t.mask r (SetTable.bits h % (t.mask+1),SetTable.bits h)).1,more:=SetTable.runEnd t.mask (jmp t.mask r (SetTable.bits h % (t.mask+1),SetTable.bits h)).1 - (jmp t.mask r (SetTable.bits h % (t.mask+1),SetTable.bits h)).1,i:=(jmp t.mask r (SetTable.bits h % (t.mask+1),SetTable.bits h)).1,perturb:=(jmp t.mask r (SetTable.bits h % (t.mask+1),SetTable.bits h)).2,dummy:=none}
 | 0=>⟨0,Nat.le_refl _,rfl⟩
 | r+1=>by
  obtain⟨n,h1,h2⟩:=prb_jmp (h:=h) r
  generalize hq:jmp t.mask r (SetTable.bits h % (t.mask+1),SetTable.bits h)=q at h2
  have e:jmp t.mask (r+1) (SetTable.bits h % (t.mask+1),SetTable.bits h)=SetTable.leap t.mask q.1 q.2:=by rw[jmp_add,hq];rfl
  rw[e]
  have hk:SetTable.runEnd t.mask q.1 - q.1≤9:=by unfold SetTable.runEnd;split <;>omega
  have hr:=prb_run (SetTable.runEnd t.mask q.1 - q.1) _ h2 (Nat.le_refl _)
  refine⟨n+(SetTable.runEnd t.mask q.1 - q.1)+1,by omega,?_⟩
  show t.advance (prb t h (n+_))=_
  rw[hr]
  unfold SetTable.advance
  rw[if_neg (by show ¬(SetTable.runEnd t.mask q.1 - q.1 - (SetTable.runEnd t.mask q.1 - q.1) > 0);omega)]
theorem prb_dummy {h:Int}:∀n,(prb t h n).dummy=none
 | 0=>rfl
 | n+1=>by
  have ih:=prb_dummy (h:=h) n
  show(t.advance (prb t h n)).dummy=none
  unfold SetTable.advance
  split
  ·exact ih
  ·exact ih
theorem prb_ex (hm:Msk t.mask)(hd:t.dummies = #[])(hl:t.place.size≤t.mask)(h:Int):∃N,N<10*SetTable.turns t.mask∧t.slot (prb t h N).j=.empty∧∀k,k<N→∃i,t.slot (prb t h k).j=.live i:=by
 obtain⟨j,j1,j2⟩:=free_ex (l:=t.place.toList) (m:=t.mask) (by simpa using hl)
 have hi:SetTable.bits h % (t.mask+1)≤t.mask:=Nat.le_of_lt_succ (Nat.mod_lt _ (Nat.succ_pos _))
 obtain⟨r,r1,r2⟩:=jmp_all hm hi (bits_lt h) j1
 obtain⟨n,n1,n2⟩:=prb_jmp (t:=t) (h:=h) r
 have e:t.slot (prb t h n).j=.empty:=by rw[n2];show t.slot (jmp t.mask r _).1=_;rw[r2];exact slot_free hd j2
 have:∃N,N≤n∧t.slot (prb t h N).j=.empty∧∀k,k<N→∃i,t.slot (prb t h k).j=.live i:=by
  clear n1 n2
  induction n using Nat.strongRecOn with
  | _ n ih =>
   by_cases q:∃k,k<n∧t.slot (prb t h k).j=.empty
   ·obtain⟨k,k1,k2⟩:=q
    obtain⟨N,a,b,c⟩:=ih k k1 k2
    exact⟨N,by omega,b,c⟩
   ·refine⟨n,Nat.le_refl _,e,fun k hk=>?_⟩
    rcases slot_no hd (prb t h k).j with z|z
    ·exact z
    ·exact absurd ⟨k,hk,z⟩ q
 obtain⟨N,a,b,c⟩:=this
 exact⟨N,by unfold SetTable.turns;omega,b,c⟩
theorem prb_go {hashAt:Nat→Int}{h:Int}{N:Nat}(he:t.slot (prb t h N).j=.empty)(hv:∀k,k<N→∃i,t.slot (prb t h k).j=.live i):∀(d m f:Nat),m+d=N→d<f →
  SetTable.probe.go t hashAt h f (prb t h m)=some (.empty (prb t h N).j none)∨∃k i,m≤k∧k<N∧t.slot (prb t h k).j=.live i∧hashAt i=h∧SetTable.probe.go t hashAt h f (prb t h m)=some (.candidate (prb t h k).j i (prb t h (k+1)))
 | 0,m,f,e,hf=>by
  obtain⟨f,rfl⟩:∃g,f=g+1:=⟨f - 1,by omega⟩
  have:m=N:=by omega
  subst this
  refine .inl ?_
  unfold SetTable.probe.go
  rw[he,prb_dummy]
 | d+1,m,f,e,hf=>by
  obtain⟨f,rfl⟩:∃g,f=g+1:=⟨f - 1,by omega⟩
  obtain⟨i,hi⟩:=hv m (by omega)
  unfold SetTable.probe.go
  rw[hi]
  dsimp only
  by_cases q:hashAt i=h
  ·rw[if_pos (by simp[q])]
   exact .inr ⟨m,i,Nat.le_refl _,by omega,hi,q,rfl⟩
  ·rw[if_neg (by simp[q])]
   rcases prb_go (hashAt:=hashAt) he hv d (m+1) f (by omega) (by omega) with z|⟨k,i',a,b,c⟩
   ·exact .inl z
   ·exact .inr ⟨k,i',by omega,b,c⟩
theorem prb_met {ha:Nat→Int}{h:Int}{N:Nat}{met:Option SetTable.Met}(he:t.slot (prb t h N).j=.empty)(hv:∀k,k<N→∃i,t.slot (prb t h k).j=.live i){d m:Nat}(e:m+d=N)(hd:d<10*SetTable.turns t.mask)(hp:t.probe ha h (prb t h m)=met) :
  met=some (.empty (prb t h N).j none)∨∃k i,m≤k∧k<N∧t.slot (prb t h k).j=.live i∧met=some (.candidate (prb t h k).j i (prb t h (k+1))):=by
 subst hp
 rcases prb_go (hashAt:=ha) he hv d m (10*SetTable.turns t.mask) e hd with z|⟨k,i,a,b,c,_,z⟩
 ·exact .inl z
 ·exact .inr ⟨k,i,a,b,c,z⟩
end
theorem free_spec {m:Nat}{owner:Array (Option Nat)}:∀(f:Nat) (p:Nat×Nat),p.1≤m→(∃n,n<f∧owner.getD (jmp m n p).1 (some 0)=none)→∃j,SetTable.layClean.free m owner f p.1 p.2=some j∧j≤m∧owner.getD j (some 0)=none
 | 0,p,_,⟨n,h,_⟩=>by omega
 | f + 1,p,hp,⟨n,h,e⟩=>by
  have hre:SetTable.runEnd m p.1≤m∧p.1≤SetTable.runEnd m p.1:=by unfold SetTable.runEnd;split <;>omega
  unfold SetTable.layClean.free
  split
  ·rename_i k hk
   have h1:=List.find?_some hk
   have h2:=List.mem_range.mp (List.mem_of_find?_eq_some hk)
   refine⟨p.1+k,rfl,by omega,?_⟩
   simpa using h1
  ·rename_i hk
   have h0:=List.find?_eq_none.mp hk 0 (List.mem_range.mpr (by omega))
   have n0:n≠0:=fun z=>by
    subst z
    have e':owner.getD p.1 (some 0)=none:=e
    rw[Nat.add_zero,e'] at h0
    exact h0 rfl
   obtain⟨n,rfl⟩:∃k,n=k+1:=⟨n - 1,by omega⟩
   exact free_spec f (SetTable.leap m p.1 p.2) (by unfold SetTable.leap;exact Nat.le_of_lt_succ (Nat.mod_lt _ (Nat.succ_pos _))) ⟨n,by omega,e⟩
theorem fm_set:∀{l:List (Option Nat)}{j k:Nat},l[j]? = some none→((l.set j (some k)).filterMap id).Perm (k::l.filterMap id)
 | [],j,k,h=>by simp at h
 | x::l,0,k,h=>by
  simp only[List.getElem?_cons_zero,Option.some.injEq] at h
  subst h
  exact List.Perm.refl _
 | x::l,j+1,k,h=>by
  have ih:=fm_set (l:=l) (j:=j) (k:=k) (by simpa using h)
  rw[List.set_cons_succ]
  cases x with
  | none=>exact ih
  | some y=>exact(ih.cons y).trans (List.Perm.swap k y _)
structure Ow (m k:Nat)(owner:Array (Option Nat)):Prop where
 sz:owner.size=m+1
 pm:(owner.toList.filterMap id).Perm (List.range k)
theorem Ow.free {m k:Nat}{owner:Array (Option Nat)}(o:Ow m k owner)(hm:Msk m)(hk:k≤m)(h:Int):∃j,SetTable.layClean.free m owner (SetTable.turns m) (SetTable.bits h % (m+1)) (SetTable.bits h)=some j∧j≤m∧owner.getD j (some 0)=none:=by
 have hi:SetTable.bits h % (m+1)≤m:=Nat.le_of_lt_succ (Nat.mod_lt _ (Nat.succ_pos _))
 have ex:∃j,j≤m∧owner.getD j (some 0)=none:=by
  refine Classical.byContradiction fun z=>?_
  have all:∀x∈owner.toList,x.isSome=true:=fun x hx=>by
   obtain⟨j,hj,e⟩:=List.mem_iff_getElem.mp hx
   have hj':j<owner.size:=by simpa using hj
   cases x with
   | some y=>rfl
   | none =>
    refine absurd ⟨j,by rw[o.sz] at hj';omega,?_⟩ z
    rw[Array.getD_eq_getD_getElem?,Array.getElem?_eq_getElem hj']
    simpa using e
  have hl:(owner.toList.filterMap id).length=owner.toList.length:=by
   have:∀l:List (Option Nat),(∀x∈l,x.isSome=true)→(l.filterMap id).length=l.length:=by
    intro l
    induction l with
    | nil=>intro _;rfl
    | cons x l ih =>
     intro hx
     have:=hx x List.mem_cons_self
     cases x with
     | none=>cases this
     | some y =>
      show(y::l.filterMap id).length=_
      rw[List.length_cons,List.length_cons,ih fun z hz=>hx z (List.mem_cons_of_mem _ hz)]
   exact this _ all
  have h1:=o.pm.length_eq
  rw[hl,List.length_range,Array.length_toList,o.sz] at h1
  omega
 obtain⟨j,j1,j2⟩:=ex
 obtain⟨n,n1,n2⟩:=jmp_all hm hi (bits_lt h) j1
 exact free_spec (SetTable.turns m) (SetTable.bits h % (m+1),SetTable.bits h) hi ⟨n,(by show n<m+15;omega),(by rw[n2];exact j2)⟩
theorem lay_ok {m:Nat}(hm:Msk m):∀(l:List Int) (k:Nat) (owner:Array (Option Nat)),Ow m k owner→k+l.length≤m→∃owner',Ow m (k+l.length) owner' ∧
  l.foldl (fun acc h=>do
   let (owner,k) ← acc
   let j ← SetTable.layClean.free m owner (SetTable.turns m) (SetTable.bits h % (m+1)) (SetTable.bits h)
   pure (owner.setIfInBounds j (some k),k+1)) (some (owner,k))=some (owner',k+l.length)
 | [],k,owner,o,_=>⟨owner,o,rfl⟩
 | h :: l,k,owner,o,hl=>by
  rw[List.length_cons] at hl
  obtain⟨j,e,j1,j2⟩:=o.free hm (by omega) h
  have o':Ow m (k+1) (owner.setIfInBounds j (some k)):=by
   refine⟨by rw[Array.size_setIfInBounds];exact o.sz,?_⟩
   have hj:j<owner.size:=by rw[o.sz];omega
   have hn:owner.toList[j]? = some none:=by
    rw[Array.getD_eq_getD_getElem?,Array.getElem?_eq_getElem hj] at j2
    rw[Array.getElem?_toList,Array.getElem?_eq_getElem hj]
    exact congrArg some j2
   rw[Array.toList_setIfInBounds]
   refine(fm_set hn).trans ((o.pm.cons k).trans ?_)
   rw[List.range_succ]
   exact(List.perm_append_comm (l₁:=[k])).trans (List.Perm.refl _)
  obtain⟨w,w1,w2⟩:=lay_ok hm l (k+1) _ o' (by omega)
  refine⟨w,by rw[List.length_cons,show k+(l.length+1)=k+1+l.length by omega];exact w1,?_⟩
  rw[List.foldl_cons]
  have e2:(do
   let (owner,k) ← some (owner,k)
   let j ← SetTable.layClean.free m owner (SetTable.turns m) (SetTable.bits h % (m+1)) (SetTable.bits h)
   pure (owner.setIfInBounds j (some k),k+1))=some (owner.setIfInBounds j (some k),k+1):=by
   show(SetTable.layClean.free m owner (SetTable.turns m) (SetTable.bits h % (m+1)) (SetTable.bits h)).bind _=_
   rw[e];rfl
  rw[e2,w2,List.length_cons,show k+1+l.length=k+(l.length+1) by omega]
theorem laid_ok {m fg mv:Nat}{led pl:Bool}(hm:Msk m)(hs:Array Int)(hl:hs.size≤m):∃place order,SetTable.laid m fg mv led pl hs=some ({mask:=m,place:=place,dummies:=#[],finger:=fg,led:=led,moves:=mv,plain:=pl},order)∧place.size=hs.size∧order.toList.Perm (List.range hs.size):=by
 have o0:Ow m 0 (Array.replicate (m+1) none):=⟨by simp,by
  have:∀n,((List.replicate n (none:Option Nat)).filterMap id)=[]:=by
   intro n
   induction n with
   | zero=>rfl
   | succ n ih=>rw[List.replicate_succ];exact ih
  rw[Array.toList_replicate,this];exact List.Perm.refl _⟩
 obtain⟨w,w1,w2⟩:=lay_ok hm hs.toList 0 _ o0 (by simpa using hl)
 rw[Nat.zero_add] at w1 w2
 have hln:hs.toList.length=hs.size:=Array.length_toList
 have e:SetTable.layClean m hs=some w:=by
  unfold SetTable.layClean
  rw[← Array.foldl_toList,w2]
  rfl
 have live:((List.range (m+1)).filterMap fun j=>(w.getD j none).map (j,·)).map (·.2)=w.toList.filterMap id:=by
  have hw:w.toList.length=m+1:=by rw[Array.length_toList];exact w1.sz
  have gen:∀(l:List (Option Nat)) (b:Nat) (f:Nat→Option Nat),(∀i,i<l.length→f (b+i)=(l[i]?).getD none)→((List.range' b l.length).filterMap fun j=>(f j).map (j,·)).map (·.2)=l.filterMap id:=by
   intro l
   induction l with
   | nil=>intro b f _;rfl
   | cons x l ih =>
    intro b f h
    have h0:=h 0 (Nat.zero_lt_succ _)
    have hr:=ih (b+1) f fun i hi=>by
     have:=h (i+1) (by rw[List.length_cons];omega)
     rw[show b+1+i=b+(i+1) by omega,this];rfl
    rw[List.length_cons,List.range'_succ,List.filterMap_cons]
    rw[Nat.add_zero] at h0
    have h0':f b=x:=h0
    rw[h0']
    cases x with
    | none=>exact hr
    | some y=>show y::_=_;rw[hr];rfl
  have:=gen w.toList 0 (fun j=>w.getD j none) fun i hi=>by rw[Nat.zero_add,Array.getD_eq_getD_getElem?,Array.getElem?_toList]
  rw[hw] at this
  rw[List.range_eq_range']
  exact this
 refine⟨(((List.range (m+1)).filterMap fun j=>(w.getD j none).map (j,·)).map (·.1)).toArray,(((List.range (m+1)).filterMap fun j=>(w.getD j none).map (j,·)).map (·.2)).toArray,?_,?_,?_⟩
 ·unfold SetTable.laid
  rw[e]
  rfl
 ·have h1:=congrArg List.length live
  have h2:=w1.pm.length_eq
  rw[List.length_map] at h1
  rw[List.length_range,hln] at h2
  simp only[List.size_toArray,List.length_map]
  omega
 ·have:=w1.pm
  rw[hln] at this
  show(((List.range (m+1)).filterMap fun j=>(w.getD j none).map (j,·)).map (·.2)).Perm _
  rw[live]
  exact this
end L2
namespace L2
open PySem PySem.W PyProof.Rows
abbrev TK (prog:Program)(w:World)(h:Heap)(k:List Key)(b:Addr):Prop:=(tupleKind (yg prog w)).is h k b∧∃x r,k=Sum.inr x::r
abbrev hsT (prog:Program)(w:World)(k:List Key):Int:=(tupleKind (yg prog w)).hash k
def Tab (m n:Nat):Prop:=(m=7∧n≤4)∨(m=31∧n≤18)∨(m=127∧n≤70)
theorem Tab.msk {m n:Nat}(h:Tab m n):Msk m:=by unfold Tab at h;unfold Msk;omega
structure StT (prog:Program)(w:World)(es:Array (Int×Value))(t:SetTable)(L:List (List Key×Addr)):Prop where
 pm:es.toList.Perm (L.map fun q=>(hsT prog w q.1,Value.ref q.2))
 nd:(L.map (·.1)).Nodup
 fits:t.fits es.size=true
 led:t.led = !w.params.followText "set-order"
 plain:es.size=0∨t.plain=false
 dum:t.dummies = #[]
 tab:Tab t.mask es.size
theorem StT.size {prog:Program}{w:World}{es:Array (Int×Value)}{t:SetTable}{L:List (List Key×Addr)}(S:StT prog w es t L):es.size=L.length:=by
 have:=S.pm.length_eq
 simpa using this
section
variable {prog:Program}{w:World}{A:Around}{E:Value→Shared→Prop}{s:Shared}
theorem TK.obj {h:Heap}{k:List Key}{b:Addr}(q:TK prog w h k b):∃o items n,h.get? b=some o∧o.cls=.type "tuple" ∧ o.data=.seq items n∧ItemsAre (yg prog w) k items.toList:=q.1
theorem tk_byValue {k:List Key}{b:Addr}{Q:Bool→Shared→Prop}(q:TK prog w s.heap k b)(h:Q false s):wpAny (model prog w) A (hashByValue 8 (.ref b)) Q E s:=by
 obtain⟨o,items,n,g,c,d,it⟩:=q.obj
 obtain⟨x,r,rfl⟩:=q.2
 have hT:s.TypeIs (.ref b) "tuple" := ⟨o,g,c⟩
 unfold hashByValue
 refine wpAny_bind (wpAny_specialOf hT PySem.F.slot_tuple_hash.lookup ?_)
 show wpAny _ _ (seqItems? (.ref b) >>= _) _ _ s
 refine wpAny_bind (wpAny_seqItems g d ?_)
 refine wpAny_bind ?_
 show wpAny _ _ (forIn items _ _) _ _ s
 rw[← Array.forIn_toList]
 cases hv:items.toList with
 | nil=>rw[hv] at it;cases it
 | cons v vs =>
  rw[hv] at it
  cases it with
  | cons h1 _ =>
   rcases yu (show keyIs (Sum.inr x) v=true from h1) with⟨i,t,z,_⟩|⟨y,t,z,rfl⟩
   ·cases z
   ·rw[List.forIn_cons]
    have e:hashByValue 7 (.str y t)=pure false:=by unfold hashByValue;rfl
    rw[e]
    exact wpAny_bind (wpAny_bind (wpAny_pure (wpAny_pure (wpAny_pure (wpAny_pure h)))))
theorem tk_class {k:List Key}{b:Addr}{Q:Bool→Shared→Prop}(q:TK prog w s.heap k b)(h:Q false s):wpAny (model prog w) A (ofAClassStatement 8 (.ref b)) Q E s:=by
 obtain⟨o,items,n,g,c,d,it⟩:=q.obj
 have hT:s.TypeIs (.ref b) "tuple" := ⟨o,g,c⟩
 unfold ofAClassStatement
 refine wpAny_bind (wpAny_typeOf hT ?_)
 dsimp only
 rw[if_pos (by decide)]
 refine wpAny_bind (wpAny_pure ?_)
 simp only[Bool.not_true,Bool.false_eq_true,if_false]
 refine wpAny_bind (wpAny_seqItems g d ?_)
 dsimp only
 refine wpAny_bind ?_
 show wpAny _ _ (forIn items _ _) _ _ s
 rw[← Array.forIn_toList]
 refine wpAny_forIn_list _ (fun rest r s'=>r.1=none∧s'=s∧∀v∈rest,carriedByValue v=true) _ ?_ ?_ _ _ ⟨rfl,rfl,it.byValue⟩
 ·rintro v rest r s' ⟨hr,rfl,hall⟩
  have hv:=hall v List.mem_cons_self
  have e:ofAClassStatement 7 v=pure false:=by
   cases v with
   | ref a=>simp[carriedByValue] at hv
   | _=>first|rfl|(unfold ofAClassStatement;rfl)
  rw[e]
  refine wpAny_bind (wpAny_pure ?_)
  simp only[Bool.false_eq_true,if_false]
  exact wpAny_pure ⟨rfl,rfl,fun u hu=>hall u (List.mem_cons_of_mem _ hu)⟩
 ·rintro⟨r1,r2⟩ s' ⟨hr,rfl,_⟩
  simp only at hr
  subst hr
  exact wpAny_pure h
theorem tk_seen {k:List Key}{b:Addr}{Q:Bool→Shared→Prop}(q:TK prog w s.heap k b)(l:List Value)(hl:∀v∈l,∃k' b',v=.ref b'∧TK prog w s.heap k' b')(h:Q false s):wpAny (model prog w) A (searchCouldBeSeen (.ref b) l) Q E s:=by
 unfold searchCouldBeSeen
 refine wpAny_bind ?_
 refine wpAny_forIn_list _ (fun rest r s'=>r.1=none∧s'=s∧∀v∈rest,∃k' b',v=.ref b'∧TK prog w s.heap k' b') _ ?_ ?_ _ _ ⟨rfl,rfl,hl⟩
 ·rintro v rest r s' ⟨hr,rfl,hall⟩
  obtain⟨k',b',rfl,q'⟩:=hall v List.mem_cons_self
  have hrest:∀u∈rest,∃k' b',u=Value.ref b'∧TK prog w s'.heap k' b':=fun u hu=>hall u (List.mem_cons_of_mem _ hu)
  dsimp only
  split
  ·exact wpAny_pure ⟨rfl,rfl,hrest⟩
  ·refine wpAny_bind ((tupleKind (yg prog w)).quiet q.1 ?_)
   simp only[Bool.not_true,Bool.false_eq_true,if_false]
   refine wpAny_bind ((tupleKind (yg prog w)).quiet q'.1 ?_)
   simp only[Bool.not_true,Bool.false_eq_true,if_false]
   refine wpAny_bind (tk_class q ?_)
   simp only[Bool.false_eq_true,if_false]
   refine wpAny_bind (tk_class q' ?_)
   simp only[Bool.false_eq_true,if_false]
   exact wpAny_pure ⟨rfl,rfl,hrest⟩
 ·rintro⟨r1,r2⟩ s' ⟨hr,rfl,_⟩
  simp only at hr
  subst hr
  exact wpAny_pure h
theorem tk_search {a b:Addr}{es:Array (Int×Value)}{ep:Nat}{t:SetTable}{L:List (List Key×Addr)}{k:List Key}{h:Int}{Q:SetFound→Shared→Prop}(hu:A.units<cLine)(ho:s.heap.get? a=some (stO es ep t))(S:StT prog w es t L)(hL:∀q∈L,TK prog w s.heap q.1 q.2)(q:TK prog w s.heap k b)(hk:k∉L.map (·.1))
  (hQ:∀j,Q (.free j false) s):wpAny (model prog w) A (setSearch a (.ref b) h (adding:=true)) Q E s:=by
 have hft:=S.fits
 unfold SetTable.fits SetTable.fill at hft
 rw[Bool.and_eq_true] at hft
 have hf1:t.place.size=es.size:=by simpa using hft.1
 have hf2:=of_decide_eq_true hft.2
 have hsz:t.place.size≤t.mask:=by omega
 obtain⟨N,n1,n2,n3⟩:=prb_ex S.tab.msk S.dum hsz h
 have big:10*SetTable.turns t.mask≤2000:=by
  have:=S.tab
  unfold Tab at this
  unfold SetTable.turns
  omega
 have odd:t.gaveWay=false:=by
  have:=S.tab
  unfold Tab at this
  unfold SetTable.gaveWay
  rcases this with⟨e,_⟩|⟨e,_⟩|⟨e,_⟩ <;>rw[e] <;>rfl
 have ent:∀e∈es.toList,∃q∈L,e.2=Value.ref q.2:=fun e he=>by
  obtain⟨q,hq,z⟩:=List.mem_map.mp (S.pm.mem_iff.mp he)
  exact⟨q,hq,by rw[← z]⟩
 have key:∀(d m f:Nat) (stand:Option SetTable.Probe),m+d=N→d<f→stand.getD (t.probeStart h)=prb t h m→wpAny (model prog w) A (setSearchFrom a (.ref b) h true f stand) Q E s:=by
  intro d
  induction d using Nat.strongRecOn with
  | _ d ih =>
   intro m f stand e hf hst
   obtain⟨f,rfl⟩:∃g,f=g+1:=⟨f - 1,by omega⟩
   unfold setSearchFrom
   refine wpAny_bind (wpAny_setState_of ho rfl S.fits ?_)
   dsimp only
   rw[odd]
   simp only[Bool.false_eq_true,if_false]
   rw[hst]
   split
   ·rename_i met hp
    rcases prb_met n2 n3 e (by omega) hp with z|⟨c,i,c1,c2,c3,z⟩
    ·injection z with z
     subst z
     exact wpAny_pure (hQ _)
    ·injection z with z
     subst z
     dsimp only
     have hie:i<es.size:=by
      have:=(Array.getElem?_eq_some_iff.mp (slot_live c3)).1
      omega
     have ei:es[i]? = some es[i]:=Array.getElem?_eq_getElem hie
     obtain⟨q',hq',ev⟩:=ent es[i] (by simpa using Array.getElem_mem hie)
     have tq':=hL q' hq'
     obtain⟨hsh,yv⟩:∃p:Int,es[i]=(p,Value.ref q'.2):=⟨es[i].1,by rw[← ev]⟩
     rw[yv] at ei
     have hne:¬q'.1=k:=fun z=>hk (z▸List.mem_map.mpr ⟨q',hq',rfl⟩)
     have sm:t.sameMemory t.moves t.mask=some true:=by unfold SetTable.sameMemory;simp
     cases hled:t.led
     ·simp only [Bool.not_false,if_true]
      refine wpAny_bind (tk_seen q _ (fun v hv=>?_) ?_)
      ·obtain⟨e0,he0,rfl⟩:=List.mem_map.mp hv
       rw[Array.toList_filter] at he0
       obtain⟨q2,hq2,e2⟩:=ent e0 (List.mem_filter.mp he0).1
       exact⟨q2.1,q2.2,e2,hL q2 hq2⟩
      simp only[Bool.false_eq_true,if_false]
      rw[ei]
      dsimp only
      refine wpAny_bind (wpAny_holding ((tupleKind (yg prog w)).eqBool hu tq'.1 q.1 ?_))
      rw[decide_eq_false hne]
      refine wpAny_bind (wpAny_setState_of ho rfl S.fits ?_)
      simp only[Bool.and_false,Bool.false_eq_true,if_false,sm,if_true,c3,ei]
      refine wpAny_bind (wpAny_isSame_ref_self (wpAny_bind (wpAny_pure ?_)))
      simp only[if_true]
      exact ih (N - (c+1)) (by omega) (c+1) f (some (prb t h (c+1))) (by omega) (by omega) rfl
     ·simp only[Bool.not_true,Bool.false_eq_true,if_false]
      rw[ei]
      dsimp only
      refine wpAny_bind (wpAny_holding ((tupleKind (yg prog w)).eqBool hu tq'.1 q.1 ?_))
      rw[decide_eq_false hne]
      refine wpAny_bind (wpAny_setState_of ho rfl S.fits ?_)
      simp only[Bool.and_false,Bool.false_eq_true,if_false,sm,if_true,c3,ei]
      refine wpAny_bind (wpAny_isSame_ref_self (wpAny_bind (wpAny_pure ?_)))
      simp only[if_true]
      exact ih (N - (c+1)) (by omega) (c+1) f (some (prb t h (c+1))) (by omega) (by omega) rfl
   ·rename_i hp
    exact(prb_met n2 n3 e (by omega) rfl).elim (fun z=>(hp _ z).elim) fun⟨_,_,_,_,_,z⟩=>(hp _ z).elim
 exact key N 0 100000 none (by omega) (by omega) rfl
theorem StT.put {es:Array (Int×Value)}{t:SetTable}{L:List (List Key×Addr)}(S:StT prog w es t L){k:List Key}{b:Addr}(hk:k∉L.map (·.1))(j:Nat):((t.put j).1.place.size=es.size+1∧(t.put j).1.dummies = #[]∧(t.put j).1.mask=t.mask∧(t.put j).1.led=t.led)∧(SetTable.insertAt es (t.put j).2 (hsT prog w k,Value.ref b)).toList.Perm ((L++[(k,b)]).map fun q=>(hsT prog w q.1,Value.ref q.2))∧((L++[(k,b)]).map (·.1)).Nodup:=by
 have hft:=S.fits
 unfold SetTable.fits at hft
 rw[Bool.and_eq_true] at hft
 have hf1:t.place.size=es.size:=by simpa using hft.1
 refine⟨⟨?_,?_,rfl,rfl⟩,?_,?_⟩
 ·show(SetTable.insertAt t.place _ j).size=_
  have:=(SetTable.insertAt_perm t.place (SetTable.below t.place j) j).length_eq
  simp only[Array.length_toList,Array.size_push] at this
  omega
 ·show(if SetTable.has t.dummies j then _ else t.dummies) = #[]
  rw[S.dum,has_nil];rfl
 ·refine(SetTable.insertAt_perm ..).trans ?_
  rw[Array.toList_push,List.map_append]
  exact S.pm.append_right _
 ·rw [List.map_append]
  exact List.nodup_append.mpr ⟨S.nd,List.nodup_cons.mpr ⟨by simp,List.nodup_nil⟩,fun a ha b' hb e=>by
   rw[List.map_cons,List.map_nil,List.mem_singleton] at hb;subst hb;subst e;exact hk ha⟩
theorem relay_ok {a:Addr}{es:Array (Int×Value)}{ep:Nat}{t:SetTable}{n:Nat}{Q:Unit→Shared→Prop}(ho:s.heap.get? a=some (stO es ep t))(hf:t.fits es.size=true)(hm:Msk (SetTable.sizeAbove n - 1))(hl:es.size≤SetTable.sizeAbove n - 1)
  (hQ:∀es' t',es'.toList.Perm es.toList→t'.fits es'.size=true→t'.dummies = #[]→t'.mask=SetTable.sizeAbove n - 1→t'.led=t.led→t'.plain=t.plain→Q () {s with heap:=s.heap.update a (Obj.putSet es' t')}):wpAny (model prog w) A (setRelay a n) Q E s:=by
 have hz:SetTable.sizeAbove n≤128:=by unfold Msk at hm;omega
 unfold setRelay
 refine wpAny_bind (wpAny_setState_of ho rfl hf ?_)
 dsimp only
 rw[if_neg (by rw[sizeLine_eq];omega)]
 obtain⟨place,order,e1,e2,e3⟩:=laid_ok (fg:=t.finger) (mv:=t.movedTo (SetTable.sizeAbove n - 1)) (led:=t.led) (pl:=t.plain) hm (es.map (·.1)) (by rw[Array.size_map];exact hl)
 rw[Array.size_map] at e2 e3
 have e0:t.relaid (es.map (·.1)) n=some ({mask:=SetTable.sizeAbove n - 1,place:=place,dummies:=#[],finger:=t.finger,led:=t.led,moves:=t.movedTo (SetTable.sizeAbove n - 1),plain:=t.plain},order):=e1
 rw[e0]
 have ep':(order.filterMap (es[·]?)).toList.Perm es.toList:=by
  rw[Array.toList_filterMap]
  have h1:=e3.filterMap (fun i=>es[i]?)
  have h2:(List.range es.size).filterMap (fun i=>es[i]?)=es.toList:=by
   have:∀l:List (Int×Value),(List.range l.length).filterMap (fun i=>l[i]?)=l:=by
    intro l
    induction l with
    | nil=>rfl
    | cons x l ih =>
     rw[List.length_cons,List.range_succ_eq_map,List.filterMap_cons,List.filterMap_map]
     show x::List.filterMap (fun i=>(x::l)[i+1]?) (List.range l.length)=x::l
     congr 1
   have:=this es.toList
   simpa using this
  rw[h2] at h1
  exact h1
 have sz:(order.filterMap (es[·]?)).size=es.size:=by have:=ep'.length_eq;rw[Array.length_toList,Array.length_toList] at this;exact this
 have ft:SetTable.fits {mask:=SetTable.sizeAbove n - 1,place:=place,dummies:=#[],finger:=t.finger,led:=t.led,moves:=t.movedTo (SetTable.sizeAbove n - 1),plain:=t.plain} (order.filterMap (es[·]?)).size=true:=by
  unfold SetTable.fits SetTable.fill
  rw[Bool.and_eq_true]
  refine⟨by rw[sz];simpa using e2,decide_eq_true ?_⟩
  show place.size+0≤SetTable.sizeAbove n - 1
  omega
 refine wpAny_bind ?_
 show wpAny _ _ (if ((order.filterMap (es[·]?)).size != es.size)=true then _ else _) _ _ _
 rw[if_neg (by rw[sz];simp)]
 refine wpAny_pure ?_
 exact wpAny_storeSet_of ho rfl (hQ _ _ ep' ft rfl rfl rfl rfl) (by rw[sz,sizeLine_eq];omega)
theorem tk_add {a b:Addr}{es:Array (Int×Value)}{ep:Nat}{t:SetTable}{L:List (List Key×Addr)}{k:List Key}{Q:Bool→Shared→Prop}(hu:A.units<cLine)(ho:s.heap.get? a=some (stO es ep t))(S:StT prog w es t L)(hL:∀q∈L,TK prog w s.heap q.1 q.2)(q:TK prog w s.heap k b)(hk:k∉L.map (·.1))(hl:L.length<64)
  (h:∀b' h' es' ep' t' (n:Nat),s.toks≤n→Heap.SameBut a s.heap h'→h'.get? a=some (stO es' ep' t')→StT prog w es' t' (L++[(k,b)])→Q b' {s with heap:=h',toks:=n}) :
  wpAny (model prog w) A (setAdd a (.ref b)) Q E s:=by
 unfold setAdd
 refine wpAny_holding (wpAny_bind ((tupleKind (yg prog w)).pyHash hu q.1 ?_))
 have ho':({s with toks:=s.toks+(tupleKind (yg prog w)).draws k}:Shared).heap.get? a=some (stO es ep t):=ho
 unfold setAddHashed setAddHashedIn
 refine wpAny_holding (wpAny_bind (wpAny_setState_of ho' rfl S.fits ?_))
 dsimp only
 rw[if_neg (show ¬byScan (.ref b) es=true from Bool.false_ne_true)]
 refine wpAny_bind (tk_search hu ho' S hL q hk fun j=>?_)
 dsimp only
 refine wpAny_bind (wpAny_setState_of ho' rfl S.fits ?_)
 dsimp only
 obtain⟨⟨p1,p2,p3,p4⟩,pm,nd⟩:=S.put (b:=b) hk j
 generalize hp:t.put j=P at p1 p2 p3 p4 pm
 obtain⟨t1,pl⟩:=P
 dsimp only at p1 p2 p3 p4 pm ⊢
 have sz:=S.size
 have hn:(SetTable.insertAt es pl (hsT prog w k,Value.ref b)).size=es.size+1:=by
  have:=pm.length_eq
  simp only[Array.length_toList,List.length_map,List.length_append,List.length_singleton] at this
  omega
 have last:∀t2:SetTable,t2.place=t1.place→t2.dummies = #[]→t2.mask=t.mask→t2.led=t.led→t2.plain=false →
   wpAny (model prog w) A (do
    storeSet a (SetTable.insertAt es pl (hsT prog w k,Value.ref b)) t2
    if (!false&&t2.tooFull)=true then do
        setRelay a (SetTable.grown (es.size+1))
        pure true
     else pure true) Q E {s with toks:=s.toks+(tupleKind (yg prog w)).draws k}:=by
  intro t2 q1 q2 q3 q4 q5
  have fl:t2.fill=es.size+1:=by unfold SetTable.fill;rw[q1,q2,p1];rfl
  have tb:=S.tab
  unfold Tab at tb
  have ft:t2.fits (SetTable.insertAt es pl (hsT prog w k,Value.ref b)).size=true:=by
   unfold SetTable.fits
   rw[Bool.and_eq_true,fl,q1,p1,hn,q3]
   exact⟨by simp,decide_eq_true (by omega)⟩
  refine wpAny_bind (wpAny_storeSet_of ho' rfl ?_ (by rw[hn,sizeLine_eq];omega))
  have g1:(s.heap.update a (Obj.putSet (SetTable.insertAt es pl (hsT prog w k,Value.ref b)) t2)).get? a=some (stO (SetTable.insertAt es pl (hsT prog w k,Value.ref b)) (ep+1) t2):=Heap.get?_update_self (Obj.putSet (SetTable.insertAt es pl (hsT prog w k,Value.ref b)) t2) ho rfl
  have b1:=Heap.SameBut.update s.heap a (Obj.putSet (SetTable.insertAt es pl (hsT prog w k,Value.ref b)) t2)
  by_cases full:t2.tooFull=true
  ·rw [if_pos (by rw[full];rfl)]
   unfold SetTable.tooFull at full
   have full':=of_decide_eq_true full
   rw[fl,q3] at full'
   have sa:(t.mask=7∧es.size=4∧SetTable.sizeAbove (SetTable.grown (es.size+1))=32)∨(t.mask=31∧es.size=18∧SetTable.sizeAbove (SetTable.grown (es.size+1))=128):=by
    rcases tb with⟨e1,e2⟩|⟨e1,e2⟩|⟨e1,e2⟩
    ·have:es.size=4:=by omega
     exact .inl ⟨e1,this,by rw[this];decide +kernel⟩
    ·have:es.size=18:=by omega
     exact .inr ⟨e1,this,by rw[this];decide +kernel⟩
    ·omega
   refine wpAny_bind (relay_ok (s:={s with heap:=s.heap.update a (Obj.putSet (SetTable.insertAt es pl (hsT prog w k,Value.ref b)) t2),toks:=s.toks+(tupleKind (yg prog w)).draws k}) g1 ft ?_ ?_ fun es' t' r1 r2 r3 r4 r5 r6=>?_)
   ·unfold Msk
    rcases sa with⟨_,_,e⟩|⟨_,_,e⟩ <;>rw[e] <;>decide
   ·rw[hn];rcases sa with⟨_,e0,e⟩|⟨_,e0,e⟩ <;>rw[e] <;>omega
   ·have sz':es'.size=es.size+1:=by have:=r1.length_eq;simp only[Array.length_toList] at this;omega
    refine wpAny_pure (h _ _ es' (ep+2) t' _ (Nat.le_add_right _ _) (b1.trans (Heap.SameBut.update _ a _)) (Heap.get?_update_self (Obj.putSet es' t') g1 rfl) ⟨r1.trans pm,nd,r2,by rw[r5,q4];exact S.led,.inr (by rw[r6];exact q5),r3,?_⟩)
    unfold Tab
    rw[r4,sz']
    rcases sa with⟨_,e0,e⟩|⟨_,e0,e⟩ <;>rw[e] <;>omega
  ·rw[if_neg (by simpa using full)]
   refine wpAny_pure (h _ _ _ (ep+1) t2 _ (Nat.le_add_right _ _) b1 g1 ⟨pm,nd,ft,by rw[q4];exact S.led,.inr q5,q2,?_⟩)
   unfold SetTable.tooFull at full
   have full':¬(t2.fill*5≥t2.mask*3):=fun z=>full (decide_eq_true z)
   rw[fl,q3] at full'
   unfold Tab
   rw[hn,q3]
   omega
 cases hpl:t1.plain with
 | false =>
  simp only[Bool.false_eq_true,↓reduceIte]
  refine wpAny_bind (wpAny_pure ?_)
  exact last t1 rfl p2 p3 p4 hpl
 | true =>
  simp only[↓reduceIte]
  refine wpAny_bind (tk_byValue q ?_)
  simp only[Bool.false_eq_true,↓reduceIte]
  exact last {t1 with plain:=false} rfl p2 p3 p4 rfl
end
end L2
set_option maxHeartbeats 3200000
namespace L2
open PySem PySem.Spec PyProof.Rows
theorem TK.keep {prog:Program}{w:World}{h h':Heap}{k:List Key}{b:Addr}(q:TK prog w h k b)(e:∀o,h.get? b=some o→h'.get? b=some o):TK prog w h' k b:=by
 obtain⟨⟨o,items,n,g,r⟩,z⟩:=q
 exact⟨⟨o,items,n,e o g,r⟩,z⟩
theorem TK.lt {prog:Program}{w:World}{h:Heap}{k:List Key}{b:Addr}(q:TK prog w h k b):b<h.objs.size:=let ⟨⟨_,_,_,g,_⟩,_⟩:=q;Heap.lt_size g
theorem StT.sz {prog:Program}{w:World}{es:Array (Int×Value)}{t:SetTable}{L:List (List Key×Addr)}(S:StT prog w es t L):es.size≤sizeLine:=by
 have:=S.tab
 unfold Tab at this
 rw[sizeLine_eq];omega
section
variable {prog:Program}{w:World}{A:Around}{R:Result→Shared→Prop}{I:Addr}{fp wr:List Addr}{G:Array GenState→Array GenState→Prop}{n:Nat}{P:Nat→Value→Prop}{St:Nat→Shared→Prop}
theorem tk_loop (W:WalksS prog w A.in1 I fp wr G n P St)(a:Addr)(ha:a∉fp)(L:List (List Key×Addr))(hn:L.length=n)(hP:∀i v,P i v→∃q,L[i]? = some q∧v=Value.ref q.2)(hb:L.length<64)(nd:(L.map (·.1)).Nodup)(hu:A.units+1<cLine)(far:∀q∈L,q.2∉a::wr) :
  ∀ (k i:Nat) (s:Shared) es ep t,n - i=k→i≤n→St i s→s.heap.get? a=some (stO es ep t)→StT prog w es t (L.take i)→(∀q∈L,TK prog w s.heap q.1 q.2) →
   (∀s' es' ep' t',Moved (a::wr) G s s'→s'.heap.get? a=some (stO es' ep' t')→StT prog w es' t' L→R (.ok (.ret .none)) s') →
   codeAny (model prog w) A (.builtin "set.update.loop" ⟨[.ref a,.ref I],[]⟩) R s:=by
 have haw:a∉wr:=fun z=>ha (W.sub _ z)
 have up:∀b∈wr,b∈a::wr:=fun b z=>List.mem_cons_of_mem _ z
 intro k
 induction k with
 | zero =>
  intro i s es ep t hk hi st ho S _ hR
  obtain rfl:i=n:=by omega
  refine codeAny_builtin ent_sul ?_
  rw[Around.under_plainId pl_sul]
  refine wpAny_bind (m:=pyNext (.ref I)) (W.done s _ _ st fun s' hm=>?_)
  refine wpAny_pure (a:=_) (hR s' es ep t (hm.mono up) (hm.heap a _ haw ho) ?_)
  rwa [← hn,List.take_length] at S
 | succ k ih =>
  intro i s es ep t hk hi st ho S hT hR
  have hlt:i<n:=by omega
  refine codeAny_builtin ent_sul ?_
  rw[Around.under_plainId pl_sul]
  refine wpAny_bind (m:=pyNext (.ref I)) (W.item i s _ _ hlt st fun v s' hv st' hm=>?_)
  obtain⟨q,hq,rfl⟩:=hP i v hv
  have hqm:q∈L:=List.mem_of_getElem? hq
  have ho':s'.heap.get? a=some (stO es ep t):=hm.heap a _ haw ho
  have hT':∀q∈L,TK prog w s'.heap q.1 q.2:=fun q hq=>(hT q hq).keep fun o e=>hm.heap _ _ (fun z=>far q hq (up _ z)) e
  have e:L.take (i+1)=L.take i++[q]:=by rw[List.take_add_one,hq];rfl
  have hnot:q.1∉(L.take i).map (·.1):=fun z=>by
   have h1:(L.take (i+1)).map (·.1)=(L.take i).map (·.1)++[q.1]:=by rw[e,List.map_append];rfl
   have h2:((L.take (i+1)).map (·.1)).Nodup:=by rw[List.map_take];exact nd.sublist (List.take_sublist _ _)
   rw[h1] at h2
   exact(List.nodup_append.mp h2).2.2 q.1 z q.1 (List.mem_singleton.mpr rfl) rfl
  refine wpAny_bind (m:=holding [Value.ref q.2] (setAdd a (.ref q.2))) (wpAny_holding (tk_add (A:=A.in1) (k:=q.1) hu ho' S (fun x hx=>hT' x (List.mem_of_mem_take hx)) (hT' q hqm) hnot (by rw[List.length_take];omega) fun b h' es' ep' t' m hmm hsb g' S'=>?_))
  have S2:StT prog w es' t' (L.take (i+1)):=by rw[e];exact S'
  refine wpAny_pure ⟨plainId_quiet pl_sul _,ih (i+1) _ es' ep' t' (by omega) hlt (W.frame _ s' _ _ st' hmm fun b hb o e=>?_) g' S2 (fun x hx=>(hT' x hx).keep fun o e=>(hsb.2 _ fun z=>far x hx (z▸List.mem_cons_self)).trans e) fun s'' es'' ep'' t'' hm'' g'' S''=>?_⟩
  ·exact(hsb.2 b fun z:b=a=>ha (z▸hb)).trans e
  ·refine hR s'' es'' ep'' t'' (Moved.trans W.gtrans ((hm.mono up).then_heap hmm fun b o hb e=>?_) hm'') g'' S''
   exact(hsb.2 b fun z:b=a=>hb (z▸List.mem_cons_self)).trans e
end
section
variable {prog:Program}{w:World}{A:Around}{E:Value→Shared→Prop}{s:Shared}
theorem StT.new:StT prog w #[] (.fresh 0 0 (!w.params.followText "set-order")) []:=⟨List.Perm.refl _,List.nodup_nil,rfl,rfl,.inl rfl,rfl,.inl ⟨rfl,Nat.zero_le _⟩⟩
theorem tk_iter {a:Addr}{es:Array (Int×Value)}{ep:Nat}{t:SetTable}{L0:List (List Key×Addr)}{Q:Value→Shared→Prop}(hh:A.handled=none)(ho:s.heap.get? a=some (stO es ep t))(S:StT prog w es t L0)
  (h:∀(I:Addr) (h':Heap) d (fp:List Addr) (vs:List Value) (St:Nat→Heap→Prop),(∀b o,s.heap.get? b=some o→h'.get? b=some o)→s.heap.objs.size≤I→(∀b∈fp,b=a∨s.heap.objs.size≤b)→vs.Perm (es.toList.map (·.2)) →
   Walks prog w A I fp [I] es.size (fun i v=>vs[i]? = some v) St→St 0 h'→Q (.ref I) {s with heap:=h',drawn:=d}):wpAny (model prog w) A (pyIter (.ref a)) Q E s:=by
 have hT:s.TypeIs (.ref a) "set" := ⟨_,ho,rfl⟩
 have hlt:a<s.heap.objs.size:=Heap.lt_size ho
 refine wpAny_pyIter_slot hT F.slot_set_iter (wpAny_call_entry F.slot_set_iter hT en_setiter ?_ (F.args_set_iter_1 _))
 unfold Builtin.«frozenset.__iter__»
 refine wpAny_bind (m:=Builtin.Frozenset.slot0 "__iter__" ⟨[.ref a],[]⟩) (wpAny_pure ?_)
 refine wpAny_bind (m:=Builtin.Frozenset.sizeOf a) (wpAny_bind (wpAny_setEntries_of ho rfl S.fits (wpAny_pure ?_)))
 have hsz:es.size≤sizeLine:=S.sz
 have ep_:∀{A:Around}{E:Value→Shared→Prop}{s':Shared}{Q':Nat→Shared→Prop},s'.heap.get? a=some (stO es ep t)→Q' ep s'→wpAny (model prog w) A (setEpoch a) Q' E s':=fun g q=>wpAny_setEpoch_of g rfl S.fits q
 unfold setDrawn setsByText
 refine wpAny_bind (wpAny_bind (wpAny_setState_of ho rfl S.fits ?_))
 dsimp only
 refine wpAny_bind (wpAny_bind (wpAny_askSetting (wpAny_pure ?_)))
 dsimp only
 cases hw:(model prog w).w.params.followText "set-order" with
 | true =>
  refine wpAny_pure ?_
  rw[Bool.not_true,Bool.false_and,if_neg Bool.false_ne_true]
  refine wpAny_bind (wpAny_pure (wpAny_bind (ep_ ho (wpAny_bind (wpAny_newObj_type (wpAny_pure ⟨_,rfl, "set_iterator", _,⟨_,Heap.get?_push_size _ rfl,rfl⟩,sl_setnext.lookup,?_⟩))))))
  refine h _ (s.heap.push (itO (.int 0 0) 0 a es.size ep)) s.drawn _ _ _ (fun b o e=>Heap.get?_push_of_some _ e) (Nat.le_refl _) (fun b hb=>?_) ((pickOrder_perm (w.params.setOrder a ep) es).map _) (wk_text hh _ a (Nat.ne_of_lt hlt) es ep t S.fits hw) ⟨Heap.get?_push_size _ rfl,Heap.get?_push_of_some _ ho⟩
  rcases List.mem_cons.mp hb with rfl|hb
  ·exact .inr (Nat.le_refl _)
  ·exact .inl (by simpa using hb)
 | false =>
  refine wpAny_pure ?_
  refine wpAny_ite_split (fun z=>?_) (fun z=>?_)
  ·refine wpAny_bind (wp_drawOrder _ _ _ _ (by simp) fun ys d p=>?_)
   have hl:ys.length=es.size:=by simpa using p.length_eq
   refine wpAny_bind (wpAny_newObj_type ?_ (by show(ys.map fun(i:Nat)=>rawInt i).toArray.size≤_;simp[hl];omega))
   have g1:(s.heap.push {cls:=.type "tuple", dict:=none,data:=.seq (ys.map fun(j:Nat)=>rawInt (j:Int)).toArray}).get? a=some (stO es ep t):=Heap.get?_push_of_some _ ho
   refine wpAny_bind (ep_ g1 (wpAny_bind (wpAny_newObj_type (wpAny_pure ⟨_,rfl, "set_iterator", _,⟨_,Heap.get?_push_size _ rfl,rfl⟩,sl_setnext.lookup,?_⟩))))
   refine h _ ((s.heap.push {cls:=.type "tuple", dict:=none,data:=.seq (ys.map fun(j:Nat)=>rawInt (j:Int)).toArray}).push (itO (.ref s.heap.objs.size) 0 a es.size ep)) d _ _ _ (fun b o e=>Heap.get?_push_of_some _ (Heap.get?_push_of_some _ e)) (by rw[Heap.size_push];exact Nat.le_succ _) (fun b hb=>?_) ?_
    (wk_drawn hh _ a s.heap.objs.size (by rw[Heap.size_push];exact Nat.ne_of_lt (Nat.lt_succ_of_lt hlt)) (by rw[Heap.size_push];exact Nat.ne_of_lt (Nat.lt_succ_self _)) es ep t S.fits ys p) ⟨Heap.get?_push_size _ rfl,Heap.get?_push_of_some _ g1,0,Heap.get?_push_of_some _ (Heap.get?_push_size _ rfl)⟩
   ·simp only[List.mem_cons,List.not_mem_nil,or_false] at hb
    rcases hb with rfl|rfl|rfl
    ·exact .inr (by rw[Heap.size_push];exact Nat.le_succ _)
    ·exact .inl rfl
    ·exact .inr (Nat.le_refl _)
   ·have:=p.map fun k=>(es.toList.map (·.2)).getD k Value.none
    refine this.trans (List.Perm.of_eq ?_)
    apply List.ext_getElem?
    intro i
    simp only[List.getElem?_map]
    by_cases hi:i<es.size
    ·simp[hi]
    ·simp[hi]
  ·have hle:es.size≤1:=by
    rcases Nat.lt_or_ge 1 es.size with q|q
    ·exfalso
     rcases S.plain with e|e
     ·omega
     ·apply z
      show(!false&&(!t.plain&&decide (es.size > 1)))=true
      simp[e,q]
    ·exact q
   have hled:t.led=true:=by rw[S.led];show(!(w.params.followText "set-order"))=true;rw[show w.params.followText "set-order" = false from hw];rfl
   refine wpAny_bind (wpAny_pure (wpAny_bind (ep_ ho (wpAny_bind (wpAny_newObj_type (wpAny_pure ⟨_,rfl, "set_iterator", _,⟨_,Heap.get?_push_size _ rfl,rfl⟩,sl_setnext.lookup,?_⟩))))))
   refine h _ (s.heap.push (itO (.int 0 0) 0 a es.size ep)) s.drawn _ _ _ (fun b o e=>Heap.get?_push_of_some _ e) (Nat.le_refl _) (fun b hb=>?_) (List.Perm.refl _) (wk_led hh _ a (Nat.ne_of_lt hlt) es ep t S.fits hle hled hw) ⟨⟨0,Heap.get?_push_size _ rfl,(below_one t es S.fits hle).1⟩,Heap.get?_push_of_some _ ho⟩
   rcases List.mem_cons.mp hb with rfl|hb
   ·exact .inr (Nat.le_refl _)
   ·exact .inl (by simpa using hb)
theorem tk_call {Tn:String}{r:Addr}{items:Array Value}{Lq:List (List Key×Addr)}{c:Nat}{od:Option Addr}{os:Array (Option Value)}{Q:Value→Shared→Prop}(hh:A.handled=none)(hr:s.heap.get? r=some {cls:=.type Tn,dict:=od,data:=.seq items c,slots:=os})
  (hsl:isSubtype (.type Tn) (.type "set")=pure false) (hsf:isSubtype (.type Tn) (.type "frozenset")=pure false) (hnd:(Value.type Tn == Value.type "dict")=false) (hx:items.toList.length=Lq.length∧∀(i:Nat) (v:Value),items[i]? = some v→∃q,Lq[i]? = some q∧v=Value.ref q.2) (hb:Lq.length<64) (nd:(Lq.map (·.1)).Nodup) (tk:∀q∈Lq,TK prog w s.heap q.1 q.2) (hu:A.units+20<cLine)
  (hit:∀(A:Around) (s':Shared) (E:Value→Shared→Prop) (Q:Value→Shared→Prop),A.handled=none→s'.heap.get? r=some {cls:=.type Tn,dict:=od,data:=.seq items c,slots:=os}→(∀oI St,(∀A':Around,A'.handled=none→Walks prog w A' s'.heap.objs.size [s'.heap.objs.size,r] [s'.heap.objs.size] items.size (fun i v=>items[i]? = some v) St)→St 0 (s'.heap.push oI)→Q (.ref s'.heap.objs.size) {s' with heap:=s'.heap.push oI})→wpAny (model prog w) A (pyIter (.ref r)) Q E s')
  (h:∀h' tk es ep t,h'.get? s.heap.objs.size=some (stO es ep t)→StT prog w es t Lq→(∀b o,s.heap.get? b=some o→h'.get? b=some o)→Q (.ref s.heap.objs.size) {s with heap:=h',toks:=tk}) :
  wpAny (model prog w) A (call (.type "set") [.ref r]) Q E s:=by
 obtain⟨c0,tl,hmro⟩:=F.called_set.mro
 have hmade:=F.called_set.made
 have hsub:=F.called_set.sub
 refine wpAny_call (codeAny_of_tree (wpAny_pure ⟨Code.quiet_builtin _ (by decide +kernel),codeAny_builtin F.entry_type_call ?_⟩))
 rw[Around.under_plain (weight_type_call_type "set" [.ref r] []) rfl]
 have h1:=F.called_set.notType
 have h2:=F.called_set.canCreate
 have hct:=F.typeCall_set_1 (.ref r)
 repeat (any_goals (first|assumption|wp_step))
 refine codeAny_mono (st_made (.ref r) (E:=E) (Q₁:=fun obj s₁=>obj=.ref s.heap.objs.size∧s₁={s with heap:=s.heap.push (stO #[] 0 (.fresh 0 0 (!w.params.followText "set-order")))}) ⟨rfl,rfl⟩) fun q₁ s₁ hq=>?_
 cases q₁ with
 | error e=>exact hq
 | ok fl =>
  cases fl with
  | ret obj =>
   obtain⟨rfl,rfl⟩:=hq
   have hS:(s.heap.push (stO #[] 0 (.fresh 0 0 (!w.params.followText "set-order")))).get? s.heap.objs.size=some (stO #[] 0 (.fresh 0 0 (!w.params.followText "set-order"))):=Heap.get?_push_size _ rfl
   have hT:Shared.TypeIs {s with heap:=s.heap.push (stO #[] 0 (.fresh 0 0 (!w.params.followText "set-order")))} (.ref s.heap.objs.size) "set" := ⟨_,hS,rfl⟩
   have hli:=F.called_set.init.lookup
   have hbi:=F.called_set.init.bind (.ref s.heap.objs.size)
   repeat (any_goals (first|assumption|wp_step))
   refine codeAny_mono (codeAny_call_builtin (R:=wants (fun v s₂=>v=.none∧∃h' tk es ep t,s₂={s with heap:=h',toks:=tk}∧h'.get? s.heap.objs.size=some (stO es ep t)∧StT prog w es t Lq∧(∀b o,s.heap.get? b=some o→h'.get? b=some o)) E) F.called_set.init.plain F.entry_set_init (check_set_init_1 hT ?_)) fun q₂ s₂ hq₂=>?_
   ·have hr':(s.heap.push (stO #[] 0 (.fresh 0 0 (!w.params.followText "set-order")))).get? r=some {cls:=.type Tn,dict:=od,data:=.seq items c,slots:=os}:=Heap.get?_push_of_some _ hr
    unfold Builtin.«set.__init__» noKeywords Builtin.Frozenset.updateFrom
    generalize hPI:pyIter=PI
    wp_walk
    subst hPI
    have hrS:r<s.heap.objs.size:=Heap.lt_size hr
    refine hit _ _ _ _ (by simp[hh]) hr' fun oI St W st0=>?_
    refine wpAny_bind (wpAny_runValue ?_)
    have hnot:s.heap.objs.size∉[(s.heap.push (stO #[] 0 (.fresh 0 0 (!w.params.followText "set-order")))).objs.size,r]:=by
     rw[Heap.size_push]
     simp only[List.mem_cons,List.not_mem_nil,or_false,not_or]
     exact⟨Nat.ne_of_lt (Nat.lt_succ_self _),Nat.ne_of_gt hrS⟩
    refine tk_loop (W _ (by simp[hh])).toS s.heap.objs.size hnot Lq (by rw[← hx.1];simp) hx.2 hb nd (by first|(simp;omega)|omega) (fun q hq=>?_) items.size 0 {s with heap:=(s.heap.push (stO #[] 0 (.fresh 0 0 (!w.params.followText "set-order")))).push oI} #[] 0 _ rfl (Nat.zero_le _) st0 (Heap.get?_push_of_some _ hS) StT.new (fun q hq=>(tk q hq).keep fun o e=>Heap.get?_push_of_some _ (Heap.get?_push_of_some _ e)) fun s' es' ep' t' hm g S=>?_
    ·have hlt:=(tk q hq).lt
     rw[Heap.size_push]
     simp only[List.mem_cons,List.not_mem_nil,or_false,not_or]
     exact⟨Nat.ne_of_lt hlt,Nat.ne_of_lt (Nat.lt_succ_of_lt hlt)⟩
    obtain⟨h',g',d',tk',os'⟩:=s'
    obtain rfl:g'=s.gens:=hm.gens
    obtain rfl:d'=s.drawn:=hm.drawn
    obtain rfl:os'=s.os:=hm.os
    refine wpAny_pure (wpAny_pure ⟨rfl,h',tk',es',ep',t',rfl,g,S,fun b o e=>?_⟩)
    have hbs:=Heap.lt_size e
    refine hm.heap b o ?_ (Heap.get?_push_of_some _ (Heap.get?_push_of_some _ e))
    rw[Heap.size_push]
    simp only[List.mem_cons,List.not_mem_nil,or_false,not_or]
    exact⟨Nat.ne_of_lt hbs,Nat.ne_of_lt (Nat.lt_succ_of_lt hbs)⟩
   ·cases q₂ with
    | error e=>exact hq₂
    | ok fl₂ =>
     cases fl₂ with
     | ret v =>
      obtain⟨rfl,h',tk,es,ep,t,rfl,g,S,k⟩:=hq₂
      repeat (any_goals (first|assumption|wp_step))
      exact h _ _ _ _ _ g S k
     | _=>exact hq₂.elim
  | _=>exact hq.elim
theorem tk_extend {R:Result→Shared→Prop}{a:Addr}{es:Array (Int×Value)}{ep:Nat}{t:SetTable}{L0:List (List Key×Addr)}(hh:A.handled=none)(ho:s.heap.get? a=some (stO es ep t))(S:StT prog w es t L0)(L:Addr)(hL:L≠a)(res:Value)(c₀:Nat)(hS:s.heap.get? L=some {cls:=.type "list", data:=.seq #[] c₀})
  (hR:∀h' tk d (vs:List Value) c',(∀b o,b≠L→s.heap.get? b=some o→h'.get? b=some o)→h'.get? L=some {cls:=.type "list", dict:=none,data:=.seq vs.toArray c',slots:=#[]}→vs.Perm (es.toList.map (·.2))→R (.ok (.ret res)) {s with heap:=h',toks:=tk,drawn:=d}) :
  wpAny (model prog w) A.in1 (Builtin.List.listExtendWith (.ref L) (.ref a) res) (fun fin s'=>match fin with | .done f=>R (.ok f) s' | .again c'=>c'.quiet=true∧codeAny (model prog w) A c' R s') (fun e s'=>R (.error e) s') s:=by
 have hT:s.TypeIs (.ref a) "set" := ⟨_,ho,rfl⟩
 unfold Builtin.List.listExtendWith
 refine wpAny_bind (wpAny_typeOf (T := "set") hT ?_)
 have n1:Builtin.List.listSameRef (.ref L) (.ref a)=false:=by simp[Builtin.List.listSameRef,hL]
 have n2:(Value.type "set" == Value.type "list")=false:=by decide
 have n3:(Value.type "set" == Value.type "tuple")=false:=by decide
 simp only[n1,n2,n3,Bool.or_false,Bool.false_eq_true,if_false]
 refine wpAny_bind (tk_iter (A:=A.in1) hh ho S fun I h1 d fp vs St hk hI hfp hp W st0=>?_)
 have hlt:L<s.heap.objs.size:=Heap.lt_size hS
 have hne:L∉fp:=fun z=>(hfp L z).elim hL fun q=>absurd hlt (Nat.not_lt.mpr q)
 have hlen:vs.length=es.size:=by simpa using hp.length_eq
 have hz:es.size≤sizeLine:=S.sz
 have key:∀(h:Heap) (c₁ tk:Nat),St 0 h→(∀b o,b≠L→s.heap.get? b=some o→h.get? b=some o)→h.get? L=some {cls:=.type "list", data:=.seq #[] c₁} →
   codeAny (model prog w) A (.builtin "list.extend.loop" ⟨[.ref L,.ref I,res],[]⟩) R {s with heap:=h,toks:=tk,drawn:=d}:=by
  intro h c₁ tk st k g
  refine codeAny_extend_loopS W.toS hz L hne res es.size 0 {s with heap:=h,toks:=tk,drawn:=d} #[] c₁ rfl (Nat.zero_le _) st g (ItemsOf.nil _) fun s' acc c' hm g' hacc=>?_
  obtain⟨h',g1,d',tk',os'⟩:=s'
  obtain rfl:g1=s.gens:=hm.gens
  obtain rfl:d'=d:=hm.drawn
  obtain rfl:os'=s.os:=hm.os
  have e:acc=vs.toArray:=by
   apply Array.ext_getElem?
   intro i
   by_cases hi:i<acc.size
   ·rw[Array.getElem?_eq_getElem hi]
    have:=hacc.2 i acc[i] (Array.getElem?_eq_getElem hi)
    rw[List.getElem?_toArray]
    exact this.symm
   ·rw[Array.getElem?_eq_none (by omega),List.getElem?_toArray,List.getElem?_eq_none (by have:=hacc.1;omega)]
  subst e
  refine hR h' tk' d' vs c' (fun b o hb e=>hm.heap b o (fun z=>?_) (k b o hb e)) g' hp
  rcases List.mem_cons.mp z with z|z
  ·exact hb z
  ·rw[List.mem_singleton] at z
   subst z
   exact absurd (Heap.lt_size e) (Nat.not_lt.mpr hI)
 refine wpAny_bind (wpAny_holding (st_hint ⟨_,hk _ _ ho,rfl⟩ (wpAny_ite_split (fun _=>?_) (fun _=>wpAny_pure ⟨plainId_quiet PySem.F.plain_extend_loop _,key _ c₀ s.toks st0 (fun b o _ e=>hk b o e) (hk _ _ hS)⟩))))
 refine wpAny_bind (wpAny_rule (wpAny_bind ?_))
 refine wpAny_bind (m:=updateSeq L (·.push .none)) (wpAny_updateSeq (hk _ _ hS) rfl ?_)
 have g2:=Heap.get?_update_self (Obj.mapSeq (·.push Value.none)) (hk _ _ hS) rfl
 refine wpAny_updateSeq (hz:=by seq_fits) g2 rfl ?_
 have g3:=Heap.get?_update_self (Obj.mapSeq (·.pop)) g2 rfl
 refine wpAny_pure ⟨plainId_quiet PySem.F.plain_extend_loop _,key _ _ s.toks (W.frame 0 _ _ st0 fun b hb o e=>?_) (fun b o hb e=>?_) g3⟩
 ·have hbL:b≠L:=fun z=>hne (z▸hb)
  exact(Heap.get?_update_other _ _ (Ne.symm hbL)).trans ((Heap.get?_update_other _ _ (Ne.symm hbL)).trans e)
 ·exact(Heap.get?_update_other _ _ (Ne.symm hb)).trans ((Heap.get?_update_other _ _ (Ne.symm hb)).trans (hk b o e))
theorem tk_collect {R:List Value→Shared→Prop}{a:Addr}{es:Array (Int×Value)}{ep:Nat}{t:SetTable}{L0:List (List Key×Addr)}(hh:A.handled=none)(ho:s.heap.get? a=some (stO es ep t))(S:StT prog w es t L0)
  (h:∀h' tk d (vs:List Value),(∀b o,s.heap.get? b=some o→h'.get? b=some o)→vs.Perm (es.toList.map (·.2))→R vs {s with heap:=h',toks:=tk,drawn:=d}):wpAny (model prog w) A (collect (.ref a)) R E s:=by
 unfold collect
 refine wpAny_bind (wpAny_runValue (codeAny_builtin entry_proto_collect' ?_))
 rw[Around.under_plainId PySem.F.plain_proto_collect]
 refine wpAny_bind (m:=newList []) (wpAny_newObj_type ?_)
 refine wpAny_pure ⟨plainId_quiet PySem.F.plain_list_iadd _,codeAny_builtin entry_list_iadd' ?_⟩
 rw[Around.under_plainId PySem.F.plain_list_iadd]
 have g:(s.heap.push {cls:=.type "list", data:=.seq ([]:List Value).toArray}).get? s.heap.objs.size=some {cls:=.type "list", data:=.seq #[]}:=Heap.get?_push_size _ rfl
 have key:=tk_extend (prog:=prog) (A:=A) (s:={s with heap:=s.heap.push {cls:=.type "list", data:=.seq ([]:List Value).toArray} })
  (R:=fun(q:Result) (s':Shared)=>∃(h':Heap) (tk:Nat) (d:Drawn) (vs:List Value) (c':Nat),q=.ok (.ret (.ref s.heap.objs.size))∧s'={s with heap:=h',toks:=tk,drawn:=d}∧(∀b o,s.heap.get? b=some o→h'.get? b=some o)∧h'.get? s.heap.objs.size=some {cls:=.type "list", dict:=none,data:=.seq vs.toArray c',slots:=#[]}∧vs.Perm (es.toList.map (·.2)))
  hh (Heap.get?_push_of_some _ ho) S s.heap.objs.size (Nat.ne_of_gt (Heap.lt_size ho)) (.ref s.heap.objs.size) 0 g
  (fun h' tk d vs c' k g' p=>⟨h',tk,d,vs,c',rfl,rfl,fun b o e=>k b o (Nat.ne_of_lt (Heap.lt_size e)) (Heap.get?_push_of_some _ e),g',p⟩)
 refine wpAny_mono (show wpAny _ A.in1 (Builtin.List.listExtendWith (.ref s.heap.objs.size) (.ref a) (.ref s.heap.objs.size)) _ _ _ from key) (fun fin s' x=>?_) fun e s' x=>?_
 ·cases fin with
  | done f =>
   obtain⟨h',tk,d,vs,c',e,rfl,k,g',p⟩:=x
   cases e
   refine wpAny_bind (m:=load s.heap.objs.size) (wpAny_load g' (wpAny_pure ?_))
   exact h h' tk d vs k p
  | again c₁ =>
   refine⟨x.1,codeAny_mono x.2 fun q s₂ y=>?_⟩
   obtain⟨h',tk,d,vs,c',rfl,rfl,k,g',p⟩:=y
   refine wpAny_bind (m:=load s.heap.objs.size) (wpAny_load g' (wpAny_pure ?_))
   exact h h' tk d vs k p
 ·obtain⟨_,_,_,_,_,e',_⟩:=x
  cases e'
end
end L2
set_option maxHeartbeats 1000000
namespace L2
open PySem PySem.W PySem.Spec PyProof.Rows
theorem hu20 {A:Around}{k:Nat}(hr:Room k A):A.units+20<cLine:=by have:=hr.un;omega
def SetO (P:Program)(w:World)(p:Addr)(L:List (List Key×Addr)):HO:=.ext fun h=>∃es ep t,h.get? p=some (stO es ep t)∧StT P w es t L
def isTf (k:List Key):Prop:=∃x r,k=Sum.inr x::r
section
variable {X:Cx}
theorem call_setT (hc:X.calm=true)(hu:X.A.units+20<cLine):CallR X (.type "set") (fun xs H Q=>∃a L,xs=[.ref a]∧SqL X.K H a (L.map fun q=>V.ref q.2)∧(∀q∈L,SqT X.K H q.2 (q.1.map kV)∧isTf q.1)∧(L.map (·.1)).Nodup∧L.length<64∧∀p,H p=none→Q (.ref p) (upd H p (SetO X.prog X.w p L))):=by
 intro pins s σ H xs us Q I r h
 obtain⟨a,L,rfl,sq,hk,nd,hl,q⟩:=h
 obtain⟨u,rfl,ru⟩:=vals1 r
 cases ru
 obtain⟨its,rv,⟨ol,n,hol,hcl,hdl,hdat⟩,hz⟩:=I.list sq
 obtain⟨ocls,odict,odata,oslots⟩:=ol
 simp only at hcl hdl hdat
 subst hcl;subst hdl;subst hdat
 have hlen:=rv.length
 rw[List.length_map] at hlen
 refine tk_call (Lq:=L) (I.ok.hd hc) hol F.sub_list_set F.sub_list_frozenset (by decide) ⟨by simp[hlen],fun i v e=>?_⟩ hl nd (fun q hq=>⟨key_sq I (hk q hq).1,(hk q hq).2⟩) hu (fun A' s' E' Q' hh' hr' q=>?_) fun h' tk es ep t g S kp=>?_
 ·have e':its[i]? = some v:=by simpa using e
  have hi:i<L.length:=by have:=(List.getElem?_eq_some_iff.mp e').1;omega
  obtain⟨u,e2,ru⟩:=rv.get (i:=i) (x:=V.ref L[i].2) (by rw[List.getElem?_map,List.getElem?_eq_getElem hi];rfl)
  rw[e'] at e2
  obtain rfl:=Option.some.inj e2
  cases ru
  exact⟨L[i],List.getElem?_eq_getElem hi,rfl⟩
 ·have hL:s'.heap.IsList a its.toArray:=⟨_,hr',rfl,n,rfl⟩
  exact wpAny_pyIter_list hL (q _ _ (fun A'' hh''=>Walks.list hh'' _ a (Nat.ne_of_lt (Heap.lt_size hr')) its.toArray) ⟨⟨_,Heap.get?_push_size _ rfl,rfl,rfl⟩,hL.push _⟩)
 ·refine⟨.ref s.heap.objs.size,_,I.laid (a:=s.heap.objs.size) (o:=SetO X.prog X.w s.heap.objs.size L) (t':=tk) kp (Nat.le_refl _) ⟨⟨es,ep,t,g,S⟩,⟨_,g⟩,fun h1 h2 ⟨es,ep,t,g,S⟩ k=>⟨es,ep,t,k _ g,S⟩⟩,rfl,q _ (I.hok.fresh (Nat.le_refl _))⟩
theorem perm_map_ex {α β:Type}{f:α→β}{l m:List β}(h:l.Perm m):∀{L:List α},m=L.map f→∃L':List α,L'.Perm L∧l=L'.map f:=by
 induction h with
 | nil=>intro L e;exact⟨[],by have:L=[]:=List.map_eq_nil_iff.mp e.symm;rw[this],rfl⟩
 | cons x _ ih =>
  intro L e
  cases L with
  | nil=>cases e
  | cons q L =>
   rw[List.map_cons,List.cons.injEq] at e
   obtain⟨L',p,rfl⟩:=ih e.2
   exact⟨q::L',p.cons q,by rw[List.map_cons,e.1]⟩
 | swap x y l =>
  intro L e
  match L,e with
  | q1::q2::L,e =>
   rw[List.map_cons,List.map_cons,List.cons.injEq,List.cons.injEq] at e
   exact⟨q2::q1::L,List.Perm.swap q1 q2 L,by rw[List.map_cons,List.map_cons,e.1,e.2.1,e.2.2]⟩
 | trans _ _ ih1 ih2 =>
  intro L e
  obtain⟨L2,p2,e2⟩:=ih2 e
  obtain⟨L1,p1,e1⟩:=ih1 e2
  exact⟨L1,p1.trans p2,e1⟩
theorem call_sortedSet (hc:X.calm=true):CallR X (.builtin "sorted") (fun xs H Q=>∃p L,xs=[.ref p]∧H p=some (SetO X.prog X.w p L)∧(∀q∈L,SqT X.K H q.2 (q.1.map kV))∧Srtb (L.map (·.1))∧L.length<64∧∀p (M:List (List Key×Addr)),H p=none→M.Perm L→M.Pairwise (fun a b=>ksLt a.1 b.1=true)→Q (.ref p) (upd H p (.lst (M.map fun q=>V.ref q.2)))):=by
 intro pins s σ H xs us Q I r h
 obtain⟨p,L0,rfl,e,hk0,sb0,h64,q⟩:=h
 obtain⟨u,rfl,ru⟩:=vals1 r
 cases ru
 obtain⟨⟨es,ep,t,g,S⟩,_⟩:=I.hok p _ e
 refine Calls.call_function_entry kind_sorted plain_sorted entry_sorted (args_sorted1 _) ?_
 unfold Builtin.«sorted»
 refine wpAny_bind (m:=checkCount "sorted" 1 1 _) (wpAny_pure ?_)
 refine wpAny_bind (tk_collect (A:=X.A.in1) (I.ok.hd hc) g S fun h' tk dr vs hkp pm=>?_)
 have pm2:vs.Perm (L0.map fun q=>Value.ref q.2):=by
  have:=pm.trans (S.pm.map (·.2))
  rw[List.map_map] at this
  exact this
 obtain⟨L,pL,ea⟩:=perm_map_ex (f:=fun q:List Key×Addr=>Value.ref q.2) pm2 rfl
 have hk:∀q∈L,SqT X.K H q.2 (q.1.map kV):=fun q hq=>hk0 q (pL.mem_iff.mp hq)
 have sb:Srtb (L.map (·.1)):=by
  have pk:=pL.map (·.1)
  obtain⟨c,hcc⟩:=sb0.ne
  exact⟨⟨c,fun ks hks=>hcc ks (pk.mem_iff.mp hks)⟩,fun x hx y hy=>sb0.ok x (pk.mem_iff.mp hx) y (pk.mem_iff.mp hy),pk.nodup_iff.mpr sb0.nd⟩
 have hlL:L.length=L0.length:=pL.length_eq
 have ea':vs=(L.map (·.2)).map Value.ref:=by rw[ea,List.map_map];rfl
 rw[ea']
 refine wpAny_bind (wpAny_newList ?_ (by simp only[List.length_map];rw[sizeLine_eq];omega))
 have hoL:(h'.push (seqObj "list" ((L.map (·.2)).map Value.ref).toArray 0)).get? h'.objs.size=some (seqObj "list" ((L.map (·.2)).map Value.ref).toArray 0):=Heap.get?_push_size _ rfl
 show wpAny _ _ _ _ _ {s with heap:=h'.push (seqObj "list" ((L.map (·.2)).map Value.ref).toArray 0),toks:=tk,drawn:=dr}
 have g1:∀i (hi:i<L.length),(L.map (·.1)).getD i []=L[i].1:=fun i hi=>by rw[List.getD_eq_getElem?_getD,List.getElem?_map,List.getElem?_eq_getElem hi];rfl
 have g2:∀i (hi:i<L.length),(L.map (·.2)).getD i 0=L[i].2:=fun i hi=>by rw[List.getD_eq_getElem?_getD,List.getElem?_map,List.getElem?_eq_getElem hi];rfl
 have far:∀t∈L.map (·.2),t≠h'.objs.size:=fun t ht=>by
  obtain⟨q,hq,rfl⟩:=List.mem_map.mp ht
  obtain⟨vs,r1,⟨o,p1,p2⟩,_⟩:=I.tuple (hk q hq)
  exact Nat.ne_of_lt (Heap.lt_size (hkp _ _ p1))
 have hl1:(L.map (·.1)).length=L.length:=List.length_map ..
 have hl2:(L.map (·.2)).length=L.length:=List.length_map ..
 refine wpAny_bind (wpAny_holding (wpAny_call_entry slot_list_sort ⟨_,hoL,rfl⟩ entry_list_sort (sort_tups (kss:=L.map (·.1)) (s:={s with heap:=h'.push (seqObj "list" ((L.map (·.2)).map Value.ref).toArray 0),toks:=tk,drawn:=dr}) hoL (by rw[hl1,hl2]) far (fun i hi=>?_) sb (by rw[hl1];omega) fun p hp sd=>⟨_,rfl,?_⟩) (args_list_sort _)))
 ·have hi':i<L.length:=by rw[← hl1];exact hi
  obtain⟨vs,r1,⟨o,p1,p2⟩,_⟩:=I.tuple (hk L[i] (List.getElem_mem hi'))
  rw[g1 i hi',g2 i hi']
  exact⟨vs,r1,o,Heap.get?_push_of_some _ (hkp _ _ p1),p2⟩
 refine wpAny_pure ⟨_,rfl,?_⟩
 obtain⟨c,hat'⟩:=sortedHeap_at (n:=0) (out:=List.toArray (p.toList.map fun i=>((L.map (·.2)).map Value.ref).getD i Value.none)) hoL
 have I1:Inv X pins σ H {s with heap:=h',toks:=tk,drawn:=dr}:=(I.kept (t':=tk) hkp).drawn dr
 rw[hl1] at hp sd
 have hp':p.toList.Perm (List.range L.length):=hp
 have hmem:∀i∈p.toList,i<L.length:=fun i hi=>List.mem_range.mp (hp'.mem_iff.mp hi)
 have hv:(p.toList.map fun i=>L.getD i ([],0)).map (fun q=>V.ref q.2)=p.toList.map fun i=>V.ref ((L.map (·.2)).getD i 0):=by
  rw[List.map_map]
  refine List.map_congr_left fun i hi=>?_
  show V.ref (L.getD i ([],0)).2=_
  rw[g2 i (hmem i hi),List.getD_eq_getElem?_getD,List.getElem?_eq_getElem (hmem i hi)]
  rfl
 refine⟨.ref h'.objs.size,_,I1.laid (t':=tk) (o:=.lst ((p.toList.map fun i=>L.getD i ([],0)).map fun q=>V.ref q.2)) (fun b o e'=>?_) (Nat.le_refl _) ?_,rfl,q _ (p.toList.map fun i=>L.getD i ([],0)) (I1.hok.fresh (Nat.le_refl _)) ((map_at L p.toList hp').trans pL) ?_⟩
 ·have hlt:=Heap.lt_size e'
  rw[sortedHeap_old (Nat.ne_of_lt hlt) (by rw[size_push'];exact Nat.lt_succ_of_lt hlt)]
  exact Heap.get?_push_of_some _ e'
 ·refine ⟨?_,p.toList.map fun i=>((L.map (·.2)).map Value.ref).getD i Value.none,c,?_,hat'⟩
  ·have:=hp.size;rw[List.length_map,List.length_map,Array.length_toList,sizeLine_eq];omega
  ·rw [hv]
   refine vals_of (by simp) fun j x u hx hu=>?_
   rw[List.getElem?_map] at hx hu
   cases e:p.toList[j]? with
   | none=>rw[e] at hx;cases hx
   | some i =>
    rw[e] at hx hu
    have hi:=hmem i (List.mem_of_getElem? e)
    cases hx
    cases hu
    have g:((L.map (·.2)).map Value.ref).getD i Value.none=.ref ((L.map (·.2)).getD i 0):=by
     rw[List.getD_eq_getElem?_getD,List.getD_eq_getElem?_getD,List.getElem?_map,List.getElem?_eq_getElem (by rw[hl2];exact hi)];rfl
    show RelV _ (((L.map (·.2)).map Value.ref).getD i Value.none)
    rw[g];rfl
 ·refine List.pairwise_iff_getElem.mpr fun i j hi hj hij=>?_
  have hi':i<p.toList.length:=by simpa using hi
  have hj':j<p.toList.length:=by simpa using hj
  have hps:=hp.size
  have r1:=sd i j hij (by rw[Array.length_toList] at hj';omega)
  have gk:∀i (h:i<p.toList.length),(L.map (·.1)).getD (p.getD i 0) []=(L.getD p.toList[i] ([],0)).1:=fun i h=>by
   have hm:=hmem p.toList[i] (List.getElem_mem h)
   have e0:p.getD i 0=p.toList[i]:=by rw[gd];simp[Array.length_toList▸h]
   rw[e0,g1 _ hm,List.getD_eq_getElem?_getD,List.getElem?_eq_getElem hm]
   rfl
  dsimp only at r1
  rw[gk i hi',gk j hj'] at r1
  simpa using r1
variable {cl:Nat→Addr}{E:XK}{e:Expr}{fa:Rho→Rs D}{p pos:Pos}
theorem Dts.tk {K:PySem.W.Frag}{F:Hp}:∀{vs:List V}{ds:List D},Dts K cl F vs ds→(∀d∈ds,isTA d=true)→(ds.map kkOf).Nodup→∃L,vs=L.map (fun q=>V.ref q.2)∧Dtk K cl F L ds
 | _,_,.nil,_,_=>⟨[],rfl,rfl,.nil,fun _ h=>(by cases h),List.nodup_nil⟩
 | _,_,.cons q r,h,nd=>by
  rw[List.map_cons,List.nodup_cons] at nd
  obtain⟨L,e,k⟩:=Dts.tk r (fun d hd=>h d (List.mem_cons_of_mem _ hd)) nd.2
  have h0:=h _ List.mem_cons_self
  cases q with
  | tup sq dq =>
   rename_i a xs ds'
   refine⟨(kkOf (.tup ds'),a)::L,by rw[e];rfl,by rw[List.map_cons,List.map_cons,k.ky],.cons (.tup sq dq) k.dt,h,?_⟩
   rw[List.map_cons,List.nodup_cons];exact nd
  | _=>cases h0
theorem Dtk.srt {K:PySem.W.Frag}{F:Hp}{vs:List (List Key×Addr)}{l:List D}(h:Dtk K cl F vs l)(sb:Srtb (l.map kkOf)){M:List (List Key×Addr)}(pm:M.Perm vs)(ri:M.Pairwise fun a b=>ksLt a.1 b.1=true):Dts K cl F (M.map fun q=>V.ref q.2) (sortP l):=by
 have e1:=h.len
 have er:(List.range vs.length).map (fun i=>vs.getD i ([],0))=vs:=by
  apply List.ext_getElem
  ·simp
  ·intro i h1 h2;simp[h2]
 obtain⟨π,pπ,rfl⟩:=perm_map_ex (f:=fun i=>vs.getD i ([],0)) pm er.symm
 rw[e1] at pπ
 have hmem:∀i∈π,i<l.length:=fun i hi=>List.mem_range.mp (pπ.mem_iff.mp hi)
 have kv:∀i,i<l.length→(vs.getD i ([],0)).1=kkOf (l.getD i .non):=fun i hi=>by
  have:=congrArg (fun z=>z[i]?) h.ky
  simp only[List.getElem?_map] at this
  rw[List.getElem?_eq_getElem (by omega),List.getElem?_eq_getElem hi] at this
  rw[List.getD_eq_getElem?_getD,List.getD_eq_getElem?_getD,List.getElem?_eq_getElem (by omega),List.getElem?_eq_getElem hi]
  exact Option.some.inj this
 have rr:RisP (π.map fun i=>l.getD i .non):=by
  unfold RisP
  rw[List.pairwise_map] at ri ⊢
  refine List.Pairwise.imp_of_mem (fun {a b} ha hb z=>?_) ri
  rw[kv a (hmem a ha),kv b (hmem b hb)] at z
  exact z
 have ez:(π.map fun i=>l.getD i .non)=sortP l:=rr.unique (sortP_ris sb) ((map_at l π pπ).trans (sortP_perm l).symm)
 rw[← ez,List.map_map]
 have key:∀(π:List Nat),(∀i∈π,i<l.length)→Dts K cl F (π.map ((fun q=>V.ref q.2)∘fun i=>vs.getD i ([],0))) (π.map fun i=>l.getD i .non):=by
  intro π
  induction π with
  | nil=>exact fun _=>.nil
  | cons i π ih =>
   intro hm
   have hi:=hm i List.mem_cons_self
   refine .cons ?_ (ih fun j hj=>hm j (List.mem_cons_of_mem _ hj))
   have:=h.dt.getDt i hi
   have ev:(vs.map fun q=>V.ref q.2).getD i .non=V.ref (vs.getD i ([],0)).2:=by
    rw[List.getD_eq_getElem?_getD,List.getD_eq_getElem?_getD,List.getElem?_map,List.getElem?_eq_getElem (by omega)]
    rfl
   rw[ev] at this
   exact this
 exact key π hmem
def tpNd:List D→Bool
 | []=>true
 | d::ds=>!ds.any (tpEq d)&&tpNd ds
theorem tpNd_nd:∀{ds:List D},(∀d∈ds,isTA d=true)→tpNd ds=true→(ds.map kkOf).Nodup
 | [],_,_=>List.nodup_nil
 | d::ds,h,k=>by
  unfold tpNd at k
  rw[Bool.and_eq_true,Bool.not_eq_true'] at k
  have h':∀d∈ds,isTA d=true:=fun d hd=>h d (List.mem_cons_of_mem _ hd)
  rw[List.map_cons,List.nodup_cons]
  refine⟨fun z=>?_,tpNd_nd h' k.2⟩
  have:=(any_tp (h d List.mem_cons_self) h').mpr z
  rw[k.1] at this;cases this
def isSI:D→Bool
 | .tup [.str _,.int _]=>true
 | _=>false
theorem isSI_ta {d:D}(h:isSI d=true):isTA d=true∧isTf (kkOf d)∧∃x i,kkOf d=[Sum.inr x,Sum.inl i]:=by
 unfold isSI at h
 split at h
 ·rename_i l i
  exact⟨rfl,⟨T l,[.inl i],rfl⟩,T l,i,rfl⟩
 ·cases h
def setTD:D→Option (List D)
 | .lst ds=>if ds.all isSI=true∧tpNd ds=true∧ds.length<64 then some (sortP ds) else none
 | _=>none
theorem xl_sortsetT {p2 pos2:Pos}(hc:X.calm=true)(hu:X.A.units+20<cLine)(hgs:Gl X "sorted")(hms:X.mg "sorted" = none)(hgt:Gl X "set")(hmt:X.mg "set" = none)(he:XE X cl E e fa)(h2:starEach [e] X.env=(false,eval e X.env)::starEach [] X.env)(hpl:(backTo pos2 (starEach [] X.env)).any (·.1)=false:=by rfl)(hpl2:(backTo pos (starEach [] X.env)).any (·.1)=false:=by rfl):XL X cl E (.Call (.Name "sorted" p) [.Call (.Name "set" p2) [e] [] pos2] [] pos) (fL1 setTD fa):=by
 obtain⟨t,pt,rt⟩:=he.ex
 refine⟨_,pe_callB (call_sortedSet hc) hgs hms boot_sorted (yU (pe_callTy (call_setT hc hu) hgt hmt (show bootBuiltins "set" = some (.type "set") from PyProof.Rows.Boot.«set») (yU pt pa_nil h2) (by decide) (by decide) h2 hpl) pa_nil zO) (by decide) (by decide) zO hpl2,fun H0 F0 ρ σ H F Q R o=>rt H0 F0 ρ σ H F _ R (OutE.fstA o fun d v H1 F1 g q o1=>?_)⟩
 obtain⟨z,hz,k⟩:=o1.lf
 have fh:=(R.grow g).fh
 match d,q,hz with
 | .lst l,q1,hz =>
  dsimp only [setTD] at hz
  split at hz
  ·rename_i hl
   obtain rfl:=Option.some.inj hz
   cases q1 with
   | lst sq dq =>
    have ts:∀y∈l,isSI y=true:=fun y hy=>List.all_eq_true.mp hl.1 y hy
    obtain⟨L,e,dk⟩:=dq.tk (fun d hd=>(isSI_ta (ts d hd)).1) (tpNd_nd (fun d hd=>(isSI_ta (ts d hd)).1) hl.2.1)
    rw[e] at sq
    have e1:=dk.len
    have sb:Srtb (l.map kkOf):=by
     refine⟨⟨false,fun ks hk=>?_⟩,fun x hx y hy=>?_,dk.nd⟩
     ·obtain⟨d,hd,rfl⟩:=List.mem_map.mp hk
      obtain⟨x,i,e4⟩:=(isSI_ta (ts d hd)).2.2
      exact⟨_,_,e4,rfl⟩
     ·obtain⟨d,hd,rfl⟩:=List.mem_map.mp hx
      obtain⟨d',hd',rfl⟩:=List.mem_map.mp hy
      obtain⟨x,i,e4⟩:=(isSI_ta (ts d hd)).2.2
      obtain⟨x',i',e5⟩:=(isSI_ta (ts d' hd')).2.2
      rw[e4,e5];rfl
    refine⟨_,L,rfl,fh.seq sq,fun q hq=>⟨fh.seqT (dk.sq q hq),?_⟩,by rw[dk.ky];exact dk.nd,by omega,fun p hp=>⟨p,L,rfl,zX,fun q hq=>?_,by rw[dk.ky];exact sb,by omega,fun p' M hp' pm ri=>?_⟩⟩
    ·have:q.1∈l.map kkOf:=by rw[← dk.ky];exact List.mem_map.mpr ⟨q,hq,rfl⟩
     obtain⟨d,hd,e3⟩:=List.mem_map.mp this
     rw[← e3];exact(isSI_ta (ts d hd)).2.1
    ·exact(fh.trans (Same.upd hp)).seqT (dk.sq q hq)
    ·have gn:Gr F1 H1 F1 (upd H1 p (SetO X.prog X.w p L)):=Gr.newO fh hp
     exact k _ _ F1 gn (dk.srt sb pm ri) p' hp'
  ·cases hz
end
end L2
namespace L2
open PySem PySem.Spec PyProof.Rows
section
variable {X:Cx}
theorem ends_T (l m:List Nat):Txt.endswith (T l) (T m)=m.isSuffixOf l:=by
 unfold Txt.endswith
 rw[StrLaws.subAt_eq,T_cps,T_cps,T_len,T_len,Nat.zero_add]
 rw[Bool.eq_iff_iff,Bool.and_eq_true]
 simp only[decide_eq_true_eq,beq_iff_eq]
 rw[List.isSuffixOf_iff_suffix]
 constructor
 ·rintro⟨h1,h2⟩
  rw[List.take_of_length_le (by rw[List.length_drop];omega)] at h2
  rw[← h2];exact List.drop_suffix _ _
 ·intro h
  have hl:=h.length_le
  refine⟨hl,?_⟩
  rw[List.take_of_length_le (by rw[List.length_drop];omega)]
  exact(List.suffix_iff_eq_drop.mp h).symm
theorem mt_ends:MtR X "str.endswith" (fun x vs H Q=>∃l m,x=.str (T l)∧vs=[.str (T m)]∧Q (.bl (m.isSuffixOf l)) H):=by
 intro pins s σ H x xs v us Q I rx rs h
 obtain⟨l,m,rfl,rfl,q⟩:=h
 obtain⟨t,rfl⟩:=rx
 obtain⟨u,rfl,ru⟩:=vals1 rs
 obtain⟨t',rfl⟩:=ru
 refine SC.endswith ?_
 rw[ends_T]
 exact⟨.bl _,H,I,rfl,q⟩
end
end L2
namespace L2
open PySem PySem.Spec PyProof.Rows
section
variable {X:Cx}{cl:Nat→Addr}{E:XK}{o e:Expr}{fa fb:Rho→Rs D}
def endsD:D→D→Option D
 | .str l,.str m=>some (.bl (m.isSuffixOf l))
 | _,_=>none
theorem xe_ends {apos cpos:Pos}(ho:XE X cl E o fa)(ha:XE X cl E e fb)(m:Mth X o e "endswith" apos cpos):XE X cl E (.Call (.Attribute o "endswith" apos) [e] [] cpos) (fM isS endsD fa fb):=by
 obtain⟨t,pt,rt⟩:=ho.ex
 obtain⟨u,pu,ru⟩:=ha.ex
 refine XE'.out ⟨_,pe_bm PySem.F.plainAttrs_str PySem.F.slot_str_endswith PySem.F.type_str_endswith mt_ends pt (yU pu pa_nil m.hs) m.base m.few m.line m.hs m.plain,fun H0 F0 ρ σ H F Q R o=>rt H0 F0 ρ σ H F _ R (OutE.fst o fun d v H1 F1 g1 q o1=>?_)⟩
 split at o1
 ·rename_i hd
  cases q with
  | str l ok =>
   refine⟨rfl,ru H0 F0 ρ σ H1 F1 _ (R.grow g1) (OutE.fst o1 fun d2 v2 H2 F2 g2 q2 o2=>?_)⟩
   obtain⟨z,hz,k⟩:=o2.lf
   cases q2 with
   | str m ok2 =>
    obtain rfl:=Option.some.inj hz
    exact⟨l,m,rfl,rfl,k _ _ _ (Gr.refl (R.grow (g1.trans g2)).fh) (.bl _)⟩
   | _=>cases hz
  | _=>cases hd
 ·exact o1.elim
end
end L2
namespace Pg
open PySem L2 My
theorem fA1 {fn:List D→Rs D}{f:Rho→Rs D}{ρ:Rho}{a:D}(e1:f ρ=.ok a):fA (ari 1 fn) (zj f zE) ρ=fn [a]:=by
 unfold fA;rw[zJ e1 rfl];rfl
theorem fA2 {fn:List D→Rs D}{f g:Rho→Rs D}{ρ:Rho}{a b:D}(e1:f ρ=.ok a)(e2:g ρ=.ok b):fA (ari 2 fn) (zj f (zj g zE)) ρ=fn [a,b]:=by
 unfold fA;rw[zJ e1 (zJ e2 rfl)];rfl
theorem fA3 {fn:List D→Rs D}{f g h:Rho→Rs D}{ρ:Rho}{a b c:D}(e1:f ρ=.ok a)(e2:g ρ=.ok b)(e3:h ρ=.ok c):fA (ari 3 fn) (zj f (zj g (zj h zE))) ρ=fn [a,b,c]:=by
 unfold fA;rw[zJ e1 (zJ e2 (zJ e3 rfl))];rfl
theorem fA4 {fn:List D→Rs D}{f g h i:Rho→Rs D}{ρ:Rho}{a b c d:D}(e1:f ρ=.ok a)(e2:g ρ=.ok b)(e3:h ρ=.ok c)(e4:i ρ=.ok d):fA (ari 4 fn) (zj f (zj g (zj h (zj i zE)))) ρ=fn [a,b,c,d]:=by
 unfold fA;rw[zJ e1 (zJ e2 (zJ e3 (zJ e4 rfl)))];rfl
theorem ifF {ft:Rho→Rs Bool}{g:Rho→Out}{ρ:Rho}(e:ft ρ=.ok false):sIf ft g sNx ρ=.nx ρ:=sIf_f e
theorem yV {f:Rho→Rs D}{ρ:Rho}{b:Bool}(e:f ρ=.ok (.bl b)):bT f ρ=.ok b:=by unfold bT;rw[e];rfl
theorem bNot_ok {f:Rho→Rs Bool}{ρ:Rho}{b:Bool}(e:f ρ=.ok b):bNot f ρ=.ok (!b):=by unfold bNot;rw[e];rfl
theorem bOr_ff {f g:Rho→Rs Bool}{ρ:Rho}(e:f ρ=.ok false)(e2:g ρ=.ok false):bOr f g ρ=.ok false:=by unfold bOr;rw[e];exact e2
theorem loopSeq {i:Nat}{fi:Rho→Rs (List D)}{body rest:Rho→Out}{ρ:Rho}{ds:List D}{o:Out}(I:Rho→Prop)(e:fi ρ=.ok ds)(h:∃ρ',forD i body ds ρ=.nx ρ'∧I ρ')(k:∀ρ',I ρ'→rest ρ'=o):zQ (cutX (sFor i fi body)) rest ρ=o:=by
 obtain⟨ρ',e1,i1⟩:=h
 exact(zA (cutX_nx ((sFor_ok e).trans e1))).trans (k ρ' i1)
theorem fSl_ok {fa:Rho→Rs D}{fl fh:Rho→Rs (Option Int)}{ρ:Rho}{a d:D}{l h:Option Int}(e1:fa ρ=.ok a)(e2:fl ρ=.ok l)(e3:fh ρ=.ok h)(e4:slD a l h=some d):fSl fa fl fh ρ=.ok d:=by
 unfold fSl;rw[e1];show(fl ρ).bind _=_;rw[e2];show(fh ρ).bind _=_;rw[e3];show lf (slD a l h)=_;rw[e4];rfl
theorem sDrop_ok {f:Rho→Rs D}{ρ:Rho}{d:D}(e:f ρ=.ok d):sDrop f ρ=.nx ρ:=by unfold sDrop;rw[e]
theorem ixN_nat {n j:Nat}(h:j<n):ixN n (j:Int)=some j:=by
 unfold ixN
 rw[if_pos (by omega),if_pos (by omega)];rfl
theorem at_sT {B:List (List Nat)}{j:Nat}(h:j<B.length):atI (sT B) (j:Int)=some (.str (B.getD j [])):=by
 unfold atI
 rw[yK,ixN_nat h]
 simp[sT,h]
def zM (n:Nat):Nat:=if n≤1 then 0 else if n≤2 then 1 else if n≤4 then 2 else if n≤8 then 3 else if n≤16 then 4 else 5
theorem bits_lt:∀n<33,∀b<6,(2 ^ b<n↔b<zM n):=by decide +kernel
theorem bits5 (n:Nat):zM n≤5:=by unfold zM;(repeat' split) <;>omega
theorem bits_loop {n:Nat}(h:n≤32):∀(j b f:Nat),zM n - b=j→b≤zM n→j<f →
  whD (bT (f2 ltI (fNm 2) (fNm 0))) (zQ (yM 1 (f2 addI (fNm 1) (fC (.int 1)))) (yM 2 (f2 mulI (fNm 2) (fC (.int 2))))) f [.fz (.int n),.fz (.int (b:Int)),.fz (.int ((2 ^ b:Nat):Int))]=.nx [.fz (.int n),.fz (.int ((zM n:Nat):Int)),.fz (.int ((2 ^ zM n:Nat):Int))]:=by
 intro j
 induction j with
 | zero =>
  intro b f hj hb hf
  have eb:b=zM n:=by omega
  subst eb
  obtain⟨f,rfl⟩:∃g,f=g+1:=⟨f - 1,by omega⟩
  have hb5:=bits5 n
  have et:bT (f2 ltI (fNm 2) (fNm 0)) [.fz (.int n),.fz (.int ((zM n:Nat):Int)),.fz (.int ((2 ^ zM n:Nat):Int))]=.ok false:=by
   have:¬2 ^ zM n<n:=fun z=>by have:=(bits_lt n (by omega) (zM n) (by omega)).mp z;omega
   refine yV (zR (a:=.int ((2 ^ zM n:Nat):Int)) (b:=.int (n:Int)) rfl rfl ?_)
   show some (D.bl (decide (((2 ^ zM n:Nat):Int)<(n:Int))))=_
   rw[decide_eq_false (by omega)]
  unfold whD
  rw[et]
 | succ j ih =>
  intro b f hj hb hf
  obtain⟨f,rfl⟩:∃g,f=g+1:=⟨f - 1,by omega⟩
  have hb5:=bits5 n
  have hlt:2 ^ b<n:=(bits_lt n (by omega) b (by omega)).mpr (by omega)
  have et:bT (f2 ltI (fNm 2) (fNm 0)) [.fz (.int n),.fz (.int (b:Int)),.fz (.int ((2 ^ b:Nat):Int))]=.ok true:=by
   refine yV (zR (a:=.int ((2 ^ b:Nat):Int)) (b:=.int (n:Int)) rfl rfl ?_)
   show some (D.bl (decide (((2 ^ b:Nat):Int)<(n:Int))))=_
   rw[decide_eq_true (by omega)]
  have hp:2 ^ (b+1)=2 ^ b*2:=Nat.pow_succ ..
  have es:(zQ (yM 1 (f2 addI (fNm 1) (fC (.int 1)))) (yM 2 (f2 mulI (fNm 2) (fC (.int 2))))) [.fz (.int n),.fz (.int (b:Int)),.fz (.int ((2 ^ b:Nat):Int))]=.nx [.fz (.int n),.fz (.int ((b+1:Nat):Int)),.fz (.int ((2 ^ (b+1):Nat):Int))]:=by
   refine(zA (zF (addI_ok rfl rfl))).trans ?_
   refine(zF (mulI_ok (i:=((2 ^ b:Nat):Int)) (j:=2) rfl rfl (sm_of (by omega)) (sm_of (by omega)))).trans ?_
   have:((2 ^ b:Nat):Int)*2=((2 ^ (b+1):Nat):Int):=by omega
   rw[this];rfl
  unfold whD
  rw[et]
  show(match (zQ (yM 1 (f2 addI (fNm 1) (fC (.int 1)))) (yM 2 (f2 mulI (fNm 2) (fC (.int 2))))) [.fz (.int n),.fz (.int (b:Int)),.fz (.int ((2 ^ b:Nat):Int))] with | .nx ρ'=>_ | .ct ρ'=>_ | .bk ρ'=>_|o=>o)=_
  rw[es]
  exact ih (b+1) f (by omega) (by omega) (by omega)
theorem bits_for_eq {n:Nat}(h:n≤32):fn_bits_for [.int n]=.ok (.int ((zM n:Nat):Int)):=by
 have hb5:=bits5 n
 have:=bits_loop h (zM n) 0 64 rfl (Nat.zero_le _) (by omega)
 refine zV ?_
 refine(zA (zF (d:=.int 0) rfl)).trans ((zA (zF (d:=.int 1) rfl)).trans ((zA (cutX_nx this)).trans rfl))
def wlow (i:Nat):Nat→List Nat
 | 0=>[]
 | k+1=>(48+i / 2 ^ k % 2)::wlow i k
theorem wlow_len (i:Nat):∀b,(wlow i b).length=b
 | 0=>rfl
 | b+1=>by show(wlow i b).length+1=_;rw[wlow_len i b]
theorem word_for_eq {i b:Nat}(hi:i≤1000)(hb:b≤1000):fn_word_for [.int i,.int b]=.ok (.str (wlow i b)):=by
 refine zV ?_
 refine(zA (ρ':=[.fz (.int i),.fz (.int b),.fz (.str []),.no]) (zF (d:=.str []) rfl)).trans ?_
 refine loopSeq (fun ρ=>∃s,ρ=[.fz (.int ((i / 2 ^ b:Nat):Int)),.fz (.int b),.fz (.str (wlow i b)),s]) (fR_ok (ds:=[.int (b:Int)]) rfl (rng1_nat (by omega))) ?_ (fun ρ ⟨s,e⟩=>by subst e;rfl)
 have:=forD_inv (i:=3) (g:=zQ (yM 2 (f2 addS (fO strD (zj (f2 modI (fNm 0) (fC (.int 2))) zE)) (fNm 2))) (yM 0 (f2 fdivI (fNm 0) (fC (.int 2))))) (l:=List.range b) (enc:=fun(k:Nat)=>D.int (k:Int)) (ρ:=[.fz (.int i),.fz (.int b),.fz (.str []),.no])
  (fun k ρ=>∃s,ρ=[.fz (.int ((i / 2 ^ k:Nat):Int)),.fz (.int b),.fz (.str (wlow i k)),s]) ⟨.no,by simp[wlow]⟩ (fun k c ρ hc ⟨s,e⟩=>by
   subst e
   have hk:k<b:=by have:=(List.getElem?_eq_some_iff.mp hc).1;simpa using this
   have hle:i / 2 ^ k≤i:=Nat.div_le_self _ _
   have e1:f2 modI (fNm 0) (fC (.int 2)) [.fz (.int ((i / 2 ^ k:Nat):Int)),.fz (.int b),.fz (.str (wlow i k)),.fz (.int (c:Int))]=.ok (.int (((i / 2 ^ k % 2:Nat)):Int)):=by
    refine(modI_ok (i:=((i / 2 ^ k:Nat):Int)) (j:=2) rfl rfl (by decide)).trans ?_
    have:(((i / 2 ^ k:Nat):Int)) % 2=((i / 2 ^ k % 2:Nat):Int):=by omega
    rw[this]
   have hm2:i / 2 ^ k % 2<2:=Nat.mod_lt _ (by decide)
   have e2:strD [.int (((i / 2 ^ k % 2:Nat)):Int)]=some (.str [48+i / 2 ^ k % 2]):=by
    dsimp only [strD]
    rw[if_pos (by omega)];rfl
   have e3:f2 fdivI (fNm 0) (fC (.int 2)) [.fz (.int ((i / 2 ^ k:Nat):Int)),.fz (.int b),.fz (.str (wlow i (k+1))),.fz (.int (c:Int))]=.ok (.int ((i / 2 ^ (k+1):Nat):Int)):=by
    refine(fdivI_ok (i:=((i / 2 ^ k:Nat):Int)) (j:=2) rfl rfl (by decide) (sm_of (by omega))).trans ?_
    have h1:i / 2 ^ (k+1)=i / 2 ^ k / 2:=by rw[Nat.pow_succ,Nat.div_div_eq_div_mul]
    have:(((i / 2 ^ k:Nat):Int)) / 2=((i / 2 ^ k / 2:Nat):Int):=by omega
    rw[h1,this]
   refine⟨_,(zA (ρ':=[.fz (.int ((i / 2 ^ k:Nat):Int)),.fz (.int b),.fz (.str (wlow i (k+1))),.fz (.int (c:Int))]) (zF (d:=.str (wlow i (k+1))) (zR (a:=.str [48+i / 2 ^ k % 2]) (b:=.str (wlow i k)) (fO_ok (zJ e1 rfl) e2) rfl (addS_ok (by rw[wlow_len];show 1+k≤_;omega))))).trans (zF e3),.fz (.int (c:Int)),rfl⟩)
 rw[List.length_range] at this
 exact this
def W (n:Nat):List (List Nat):=(List.range n).map fun i=>wlow i (zM n)
theorem W_len (n:Nat):(W n).length=n:=by simp[W]
theorem W_el {n:Nat}{w:List Nat}(h:w∈W n):w.length=zM n:=by
 obtain⟨i,_,rfl⟩:=List.mem_map.mp h
 exact wlow_len i _
theorem W_lt:∀n<33,(W n).Pairwise (· < ·):=by decide +kernel
theorem words_of_eq {B:List (List Nat)}(h:B.length≤32):yZ [.tup (sT B)]=.ok (.lst (sT (W B.length))):=by
 have hb5:=bits5 B.length
 have el:fO lenD (zj (fNm 0) zE) [.fz (.tup (sT B)),.no]=.ok (.int (B.length:Int)):=by
  show Rs.ok (D.int ((sT B).length:Int))=_;rw[yK]
 refine zV ((zA (ρ':=[.fz (.tup (sT B)),.fz (.int ((zM B.length:Nat):Int))]) (zF ((fA1 el).trans (bits_for_eq h)))).trans (yE ?_))
 have el2:fO lenD (zj (fNm 0) zE) [.fz (.tup (sT B)),.fz (.int ((zM B.length:Nat):Int))]=.ok (.int (B.length:Int)):=by
  show Rs.ok (D.int ((sT B).length:Int))=_;rw[yK]
 refine fComp_ok (fR_ok (zJ el2 rfl) (rng1_nat (by omega))) (by rw[List.length_map,List.length_range];omega) ?_
 have:=yQ (fe:=fA (ari 2 fn_word_for) (zj (fNm 0) (zj (fNm 1) zE))) (ρ0:=[.no,.fz (.int ((zM B.length:Nat):Int))]) (l:=List.range B.length) (enc:=fun(k:Nat)=>D.int (k:Int)) (fun i=>.str (wlow i (zM B.length))) fun i hi=>(fA2 (a:=.int (i:Int)) (b:=.int ((zM B.length:Nat):Int)) rfl rfl).trans (word_for_eq (by have:=List.mem_range.mp hi;omega) (by omega))
 unfold sT W
 rw[List.map_map]
 exact this
end Pg
namespace Pg
open PySem L2 My
theorem idx_lt {L:List (List Nat)}(s:L.Pairwise (· < ·)){j:Nat}(h:j<L.length):L.idxOf L[j]=j:=by
 have h1:=List.idxOf_lt_length_of_mem (List.getElem_mem h)
 have h2:L[L.idxOf L[j]]=L[j]:=List.getElem_idxOf h1
 rcases Nat.lt_trichotomy (L.idxOf L[j]) j with z|z|z
 ·have:=List.pairwise_iff_getElem.mp s _ _ h1 h z
  rw[h2] at this
  exact absurd this (List.lt_irrefl _)
 ·exact z
 ·have:=List.pairwise_iff_getElem.mp s _ _ h h1 z
  rw[h2] at this
  exact absurd this (List.lt_irrefl _)
def wd (B:List (List Nat))(p:List Nat):List Nat:=(W B.length).getD (B.idxOf p) []
theorem wd_mem {B:List (List Nat)}{p:List Nat}(h:p∈B):wd B p∈W B.length:=by
 have h1:=List.idxOf_lt_length_of_mem h
 have h2:B.idxOf p<(W B.length).length:=by rw[W_len];exact h1
 unfold wd
 rw[List.getD_eq_getElem?_getD,List.getElem?_eq_getElem h2]
 exact List.getElem_mem h2
theorem wd_idx {B:List (List Nat)}{p:List Nat}(hl:B.length≤32)(h:p∈B):(W B.length).idxOf (wd B p)=B.idxOf p:=by
 have h1:=List.idxOf_lt_length_of_mem h
 have h2:B.idxOf p<(W B.length).length:=by rw[W_len];exact h1
 have e:wd B p=(W B.length)[B.idxOf p]:=by
  unfold wd
  rw[List.getD_eq_getElem?_getD,List.getElem?_eq_getElem h2];rfl
 rw[e]
 exact idx_lt (W_lt _ (by omega)) h2
theorem require_pc_eq {B:List (List Nat)}{p:List Nat}(h:p∈B):fn_require_piece [.tup (sT B),.str p]=.ok .non:=by
 refine runD_nx (ifF (yV ?_))
 refine zR (a:=.str p) (b:=.tup (sT B)) rfl rfl ?_
 show inQ true (.str p) (sT B)=_
 rw[inQ_sT,decide_eq_true h];rfl
theorem word_of_eq {m:Nat}{B:List (List Nat)}(hp:Pcs m B)(hb:isBook m B=true){p:List Nat}(h:p∈B):yF [.int m,.tup (sT B),.str p]=.ok (.str (wd B p)):=by
 have hl:=hp.2.2.2.1
 have h1:=List.idxOf_lt_length_of_mem h
 refine zV ((zA (sDrop_ok ((fA2 (a:=.int m) (b:=.tup (sT B)) rfl rfl).trans (require_book_eq hp hb)))).trans ((zA (sDrop_ok ((fA2 (a:=.tup (sT B)) (b:=.str p) rfl rfl).trans (require_pc_eq h)))).trans (yE ?_)))
 ·refine zR (a:=.lst (sT (W B.length))) (b:=.int ((B.idxOf p:Nat):Int)) ((fA1 (a:=.tup (sT B)) rfl).trans (words_of_eq hl)) (fM_ok (a:=.tup (sT B)) (b:=.str p) rfl rfl rfl ?_) ?_
  ·dsimp only [idxD]
   rw[map_unS,if_pos ⟨all_isS B,by rw[yK];omega,h⟩]
  ·exact at_sT (by rw[W_len];exact h1)
theorem piece_of_eq {m:Nat}{B:List (List Nat)}(hp:Pcs m B)(hb:isBook m B=true){p:List Nat}(h:p∈B):fn_piece_of [.int m,.tup (sT B),.str (wd B p)]=.ok (.str p):=by
 have hl:=hp.2.2.2.1
 have h1:=List.idxOf_lt_length_of_mem h
 have hw:=wd_mem h
 refine zV ((zA (sDrop_ok ((fA2 (a:=.int m) (b:=.tup (sT B)) rfl rfl).trans (require_book_eq hp hb)))).trans ((zA (ρ':=[.fz (.int m),.fz (.tup (sT B)),.fz (.str (wd B p)),.fz (.lst (sT (W B.length)))]) (zF ((fA1 (a:=.tup (sT B)) rfl).trans (words_of_eq hl)))).trans ((zA (ifF (yV ?_))).trans (yE ?_))))
 ·refine zR (a:=.str (wd B p)) (b:=.lst (sT (W B.length))) rfl rfl ?_
  show inQ true (.str (wd B p)) (sT (W B.length))=_
  rw[inQ_sT,decide_eq_true hw];rfl
 ·refine zR (a:=.tup (sT B)) (b:=.int ((B.idxOf p:Nat):Int)) rfl (fM_ok (a:=.lst (sT (W B.length))) (b:=.str (wd B p)) rfl rfl rfl ?_) ?_
  ·dsimp only [idxD]
   rw[map_unS,if_pos ⟨all_isS _,by rw[yK,W_len];omega,hw⟩,wd_idx hl h]
  ·refine(at_sT h1).trans ?_
   rw[List.getD_eq_getElem?_getD,List.getElem?_eq_getElem h1]
   show some (D.str B[B.idxOf p])=_
   rw[List.getElem_idxOf h1]
theorem putD_new {ds:List (List Nat×D)}{k:List Nat}{v:D}(h:∀kv∈ds,kv.1≠k):putD ds k v=ds++[(k,v)]:=by
 unfold putD
 rw[if_neg]
 intro z
 obtain⟨kv,hm,e⟩:=List.any_eq_true.mp z
 exact h kv hm (of_decide_eq_true e)
theorem zipL_eq {ks:List (List Nat)}{ds:List D}(s:ks.Pairwise (· < ·))(hl:ks.length=ds.length):zipL ks ds=ks.zip ds:=by
 have key:∀n,n≤ks.length→(List.range n).foldl (fun m j=>putD m (ks.getD j []) (ds.getD j .non)) []=(ks.zip ds).take n:=by
  intro n
  induction n with
  | zero=>intro _;rfl
  | succ n ih =>
   intro hn
   have h1:n<ks.length:=by omega
   have h2:n<ds.length:=by omega
   have h3:n<(ks.zip ds).length:=by rw[List.length_zip];omega
   rw[List.range_succ,List.foldl_append,ih (by omega)]
   show putD ((ks.zip ds).take n) (ks.getD n []) (ds.getD n .non)=_
   have e1:ks.getD n []=ks[n]:=by rw[List.getD_eq_getElem?_getD,List.getElem?_eq_getElem h1];rfl
   have e2:ds.getD n .non=ds[n]:=by rw[List.getD_eq_getElem?_getD,List.getElem?_eq_getElem h2];rfl
   rw[e1,e2,putD_new,List.take_add_one,List.getElem?_eq_getElem h3,List.getElem_zip];rfl
   intro kv hkv z
   obtain⟨i,hi,e⟩:=List.mem_iff_getElem.mp hkv
   rw[List.length_take] at hi
   rw[List.getElem_take,List.getElem_zip] at e
   subst e
   have:=List.pairwise_iff_getElem.mp s i n (by omega) h1 (by omega)
   dsimp only at z
   rw[z] at this
   exact List.lt_irrefl _ this
 unfold zipL
 rw[← hl,Nat.min_self,key _ (Nat.le_refl _),List.take_of_length_le (by rw[List.length_zip];omega)]
theorem getK_zip:∀(ks:List (List Nat)) (ds:List D) {k:List Nat},k∈ks→ks.length=ds.length→getK (ks.zip ds) k=ds[ks.idxOf k]?
 | [],_,_,h,_=>by simp at h
 | _::_,[],_,_,h=>by simp at h
 | a :: ks,d::ds,k,h,hl=>by
  by_cases e:a=k
  ·subst e
   simp[getK]
  ·have hk:k∈ks:=by
    rcases List.mem_cons.mp h with z|z
    ·exact absurd z.symm e
    ·exact z
   have ih:=getK_zip ks ds hk (by simpa using hl)
   have e2:(a::ks).idxOf k=ks.idxOf k+1:=by rw[List.idxOf_cons,beq_eq_false_iff_ne.mpr e];rfl
   rw[e2]
   show _=ds[ks.idxOf k]?
   rw[← ih]
   simp[getK,e]
theorem zip_back {B:List (List Nat)}(hl:B.length≤32):zipDD (.lst (sT (W B.length))) (.tup (sT B))=some (.dct ((W B.length).zip (sT B))):=by
 have:zipDD (.lst (sT (W B.length))) (.tup (sT B))=if (sT (W B.length)).all isS=true∧(sT (W B.length)).length≤1000 then some (.dct (zipL ((sT (W B.length)).map unS) (sT B))) else none:=rfl
 rw[this,if_pos ⟨all_isS _,by rw[yK,W_len];omega⟩,map_unS,zipL_eq (W_lt _ (by omega)) (by rw[yK,W_len])]
theorem get_back {B:List (List Nat)}(hl:B.length≤32){p:List Nat}(h:p∈B):getK ((W B.length).zip (sT B)) (wd B p)=some (.str p):=by
 have h1:=List.idxOf_lt_length_of_mem h
 rw[getK_zip _ _ (wd_mem h) (by rw[yK,W_len]),wd_idx hl h]
 unfold sT
 rw[List.getElem?_map,List.getElem?_eq_getElem h1,List.getElem_idxOf h1];rfl
theorem cut_at (ws:List (List Nat))(b:Nat)(h:∀w∈ws,w.length=b):∀i (hi:i<ws.length),cutL ws.flatten (some ((i*b:Nat):Int)) (some ((i*b+b:Nat):Int))=ws[i]:=by
 have key:∀(ws:List (List Nat)) (i:Nat),(∀w∈ws,w.length=b)→(hi:i<ws.length)→(ws.flatten.drop (i*b)).take b=ws[i]:=by
  intro ws
  induction ws with
  | nil=>intro i _ hi;simp at hi
  | cons w ws ih =>
   intro i h hi
   have hw:=h w (.head _)
   cases i with
   | zero =>
    rw[Nat.zero_mul,List.drop_zero,List.flatten_cons]
    show(w++ws.flatten).take b=w
    rw[List.take_append_of_le_length (by omega),List.take_of_length_le (by omega)]
   | succ i =>
    rw[List.flatten_cons,Nat.succ_mul,List.drop_append,List.drop_of_length_le (by omega),List.nil_append]
    have:i*b+b - w.length=i*b:=by omega
    rw[this]
    exact ih i (fun w hw=>h w (.tail _ hw)) (by simpa using hi)
 intro i hi
 have hlen:ws.flatten.length=ws.length*b:=by
  clear key hi
  induction ws with
  | nil=>simp
  | cons w ws ih=>rw[List.flatten_cons,List.length_append,ih fun w hw=>h w (.tail _ hw),h w (.head _),List.length_cons,Nat.succ_mul];omega
 have h1:(i+1)*b≤ws.length*b:=Nat.mul_le_mul_right b hi
 rw[Nat.succ_mul] at h1
 unfold cutL
 have h0:i*b≤ws.length*b:=by omega
 rw[HT.sIx_nat,HT.sIx_nat,hlen,Nat.min_eq_left h0,Nat.min_eq_left h1]
 have:i*b+b - i*b=b:=by omega
 rw[this]
 exact key ws i h hi
theorem whole_words_eq {B:List (List Nat)}(h2:2≤B.length)(h32:B.length≤32){ws:List (List Nat)}(h:∀w∈ws,w.length=zM B.length)(hl:ws.length≤1000):fn_whole_words [.tup (sT B),.str ws.flatten]=.ok (.lst (sT ws)):=by
 have hb5:=bits5 B.length
 have hb1:1≤zM B.length:=by unfold zM;(repeat' split) <;>omega
 have hlen:ws.flatten.length=ws.length*zM B.length:=by
  clear hl
  induction ws with
  | nil=>simp
  | cons w ws ih=>rw[List.flatten_cons,List.length_append,ih fun w hw=>h w (.tail _ hw),h w (.head _),List.length_cons,Nat.succ_mul];omega
 have hmul:ws.length*zM B.length≤1000*5:=Nat.mul_le_mul hl hb5
 have hcut:=cut_at ws (zM B.length) h
 have hbits:=bits_for_eq h32
 generalize hbb:zM B.length=b at *
 have el:fO lenD (zj (fNm 0) zE) [.fz (.tup (sT B)),.fz (.str ws.flatten),.no]=.ok (.int (B.length:Int)):=by
  show Rs.ok (D.int ((sT B).length:Int))=_;rw[yK]
 refine zV ((zA (ρ':=[.fz (.tup (sT B)),.fz (.str ws.flatten),.fz (.int (b:Int))]) (zF ((fA1 el).trans hbits))).trans ((zA (ifF (bOr_ff (bNot_ok (b:=true) (yV rfl)) (yV ?_)))).trans (yE ?_)))
 ·refine zR (a:=.int 0) (b:=.int 0) ((modI_ok (i:=(ws.flatten.length:Int)) (j:=(b:Int)) rfl rfl (by omega)).trans ?_) rfl ?_
  ·rw[hlen]
   have:(((ws.length*b:Nat):Int)) % (b:Int)=0:=by rw[Int.natCast_mul];exact Int.mul_emod_left _ _
   rw[this]
  ·rfl
 ·have er:rng3 [.int 0,.int (ws.flatten.length:Int),.int (b:Int)]=some ((List.range ws.length).map fun(k:Nat)=>.int (0+(k:Int)*(b:Int))):=by
   dsimp only [rng3]
   rw[if_pos (by omega)]
   have:(((ws.flatten.length:Int)) - 0+(b:Int) - 1) / (b:Int)=(ws.length:Int):=by
    rw[hlen,Int.natCast_mul]
    have e1:(ws.length:Int)*(b:Int) - 0+(b:Int) - 1=((b:Int) - 1)+(ws.length:Int)*(b:Int):=by omega
    rw[e1,Int.add_mul_ediv_right _ _ (by omega),Int.ediv_eq_zero_of_lt (by omega) (by omega)]
    omega
   rw[this];rfl
  refine fComp_ok (ds:=(List.range ws.length).map fun(k:Nat)=>.int (0+(k:Int)*(b:Int))) (fR_ok (ds:=[.int 0,.int (ws.flatten.length:Int),.int (b:Int)]) rfl er) (by rw[List.length_map,List.length_range];omega) ?_
  have:=yQ (fe:=fSl (fNm 1) (yq (fNm 0)) (yq (f2 addI (fNm 0) (fNm 2)))) (ρ0:=[.no,.fz (.str ws.flatten),.fz (.int (b:Int))]) (l:=List.range ws.length) (enc:=fun(k:Nat)=>D.int (0+(k:Int)*(b:Int))) (fun i=>.str (ws.getD i [])) fun i hi=>by
   have hi':=List.mem_range.mp hi
   have e1:(0+(i:Int)*(b:Int))=((i*b:Nat):Int):=by rw[Int.natCast_mul];omega
   have e2:(0+(i:Int)*(b:Int))+(b:Int)=((i*b+b:Nat):Int):=by rw[Int.natCast_add,Int.natCast_mul];omega
   refine fSl_ok (a:=.str ws.flatten) (l:=some (0+(i:Int)*(b:Int))) (h:=some ((0+(i:Int)*(b:Int))+(b:Int))) rfl rfl rfl ?_
   show some (D.str (cutL ws.flatten (some (0+(i:Int)*(b:Int))) (some ((0+(i:Int)*(b:Int))+(b:Int)))))=_
   rw[e2,e1,hcut i hi',List.getD_eq_getElem?_getD,List.getElem?_eq_getElem hi'];rfl
  have e3:sT ws=(List.range ws.length).map fun i=>.str (ws.getD i []):=by
   refine List.ext_getElem (by simp[sT]) fun j h1 h2=>?_
   have hj:j<ws.length:=by rw[yK] at h1;exact h1
   simp[sT,hj]
  rw[e3];exact this
end Pg
namespace Pg
open PySem L2 My
theorem eqD_int (neg:Bool)(i j:Int):eqD neg (.int i) (.int j)=some (.bl (if neg then !decide (i=j) else decide (i=j))):=by
 unfold eqD
 rw[if_pos ⟨rfl,rfl,by show(PyData.int _).depth≤60;simp[PyData.depth]⟩]
 have:PyData.eqv (D.int i).py (D.int j).py=decide (i=j):=by
  show(i == j)=_
  by_cases h:i=j <;>simp[h]
 rw[this]
end Pg
namespace Pg
open PySem L2 My
def qF (ws:List Int)(a:Int):Int×Int:=low a (ws.sum ^ 31)
theorem getD_some {B:List (List Nat)}{j:Nat}(hj:j<B.length):B[j]? = some (B.getD j []):=by
 rw[List.getD_eq_getElem?_getD,List.getElem?_eq_getElem hj];rfl
section
variable {ws:List Int}(h:SrcOk ws)
include h
end
theorem getD_mem {B:List (List Nat)}{j:Nat}(hj:j<B.length):B.getD j []∈B:=by
 rw[List.getD_eq_getElem?_getD,List.getElem?_eq_getElem hj];exact List.getElem_mem hj
end Pg
namespace My
theorem drop_pre {q p:List Nat}(h:q <+: p)(hn:q≠p):q <+: p.dropLast:=by
 rcases List.eq_nil_or_concat p with rfl|⟨l,c,rfl⟩
 ·exact absurd (List.prefix_nil.mp h) hn
 ·rw[List.concat_eq_append] at h hn ⊢
  rw[List.dropLast_concat]
  rcases List.prefix_concat_iff.mp h with e|e
  ·exact absurd e hn
  ·exact e
theorem drop_ne {p:List Nat}(h:p≠[]):p.dropLast≠p:=fun e=>by
 have:=congrArg List.length e
 have:=List.length_pos_iff.mpr h
 rw[List.length_dropLast] at *
 omega
theorem Inner.pre {B:List (List Nat)}{x y:List Nat}(h:Inner B y)(p:x <+: y):Inner B x:=by
 obtain⟨q,hq,hy,hn⟩:=h
 refine⟨q,hq,p.trans hy,fun e=>hn ?_⟩
 subst e
 exact hy.eq_of_length (Nat.le_antisymm hy.length_le p.length_le)
theorem Book.inner_not {m:Nat}{B:List (List Nat)}(h:Book m B){x y:List Nat}(hx:Inner B x)(hy:y <+: x):y∉B:=fun hyB=>h.free hx y hy (h.ne y hyB) hyB
theorem Book.mem_iff {m:Nat}{B:List (List Nat)}(h:Book m B){p:List Nat}:p∈B↔p≠[]∧LetOk m p∧Inner B p.dropLast∧¬Inner B p:=by
 constructor
 ·intro hp
  exact⟨h.ne p hp,h.let_ p hp,⟨p,hp,List.dropLast_prefix p,drop_ne (h.ne p hp)⟩,fun hi=>h.inner_not hi (List.prefix_refl p) hp⟩
 ·rintro ⟨hn,hl,hi,hni⟩
  obtain⟨q,hq,e|e⟩:=h.cv p hl
  ·by_cases eq:q=p
   ·exact eq▸hq
   ·exact absurd hq (h.inner_not hi (drop_pre e eq))
  ·by_cases eq:p=q
   ·exact eq▸hq
   ·exact absurd ⟨q,hq,e,eq⟩ hni
theorem Book.ext {m:Nat}{B C:List (List Nat)}(h:Book m B)(k:Book m C)(e:∀x,Inner B x↔Inner C x):B=C:=by
 have p:B.Perm C:=(List.perm_ext_iff_of_nodup h.nd k.nd).mpr fun p=>by rw[h.mem_iff,k.mem_iff,e,e]
 exact List.Perm.eq_of_pairwise (fun _ _ _ _ h k=>List.le_antisymm h k) h.srt k.srt p
structure Clo (m:Nat)(P:List Nat→Prop):Prop where
 nil:P []
 let_:∀x,P x→LetOk m x
 pre:∀x y,x <+: y→P y→P x
 bd:∃N,∀x,P x→x.length<N
theorem Book.clo {m:Nat}{B:List (List Nat)}(h:Book m B):Clo m (Inner B) where
 nil:=h.nilInner
 let_:=fun x hx=>h.innerLet hx
 pre:=fun x y p hy=>hy.pre p
 bd := by
  have:∃N,∀p∈B,p.length≤N:=by
   clear h
   induction B with
   | nil=>exact⟨0,by simp⟩
   | cons q B ih =>
    obtain⟨N,hN⟩:=ih
    refine⟨max N q.length,fun p hp=>?_⟩
    rcases List.mem_cons.mp hp with rfl|hp
    ·exact Nat.le_max_right _ _
    ·exact Nat.le_trans (hN p hp) (Nat.le_max_left _ _)
  obtain⟨N,hN⟩:=this
  refine⟨N+1,fun x hq40=>?_⟩
  obtain⟨p,hp,hx,_⟩:=hq40
  have:=hN p hp
  have:=hx.length_le
  omega
theorem Book.of {m:Nat}(m2:2≤m)(m4:m≤4){P:List Nat→Prop}(c:Clo m P){L:List (List Nat)}(s:L.Pairwise (·≤·))(n:L.Nodup)(hm:∀p,p∈L↔p≠[]∧LetOk m p∧P p.dropLast∧¬P p):Book m L∧∀x,Inner L x↔P x:=by
 have h97:97∈abcd.take m:=let_abcd m4 (by omega)
 obtain⟨N,hN⟩:=c.bd
 have up:∀(k:Nat) (x:List Nat),P x→N≤x.length+k→∃q∈L,x <+: q∧x≠q:=by
  intro k
  induction k with
  | zero=>intro x hx hk;have:=hN x hx;omega
  | succ k ih =>
   intro x hx hk
   by_cases hy:P (x++[97])
   ·obtain⟨q,hq,h1,h2⟩:=ih (x++[97]) hy (by simp;omega)
    refine⟨q,hq,(List.prefix_append _ _).trans h1,fun e=>?_⟩
    have:=h1.length_le
    rw[← e,List.length_append,List.length_singleton] at this
    omega
   ·refine⟨x++[97],(hm _).mpr ⟨by simp,(c.let_ x hx).app (LetOk.one h97),?_,hy⟩,List.prefix_append _ _,fun e=>ne_snoc x 97 e.symm⟩
    rw[List.dropLast_concat];exact hx
 have down:∀(k:Nat) (x:List Nat),x.length≤k→LetOk m x→¬P x→∃q∈L,q <+: x:=by
  intro k
  induction k with
  | zero =>
   intro x hk _ hx
   have:x=[]:=List.length_eq_zero_iff.mp (by omega)
   subst this
   exact absurd c.nil hx
  | succ k ih =>
   intro x hk hl hx
   have hne:x≠[]:=fun e=>hx (e▸c.nil)
   by_cases hd:P x.dropLast
   ·exact⟨x,(hm x).mpr ⟨hne,hl,hd,hx⟩,List.prefix_refl x⟩
   ·obtain⟨q,hq,e⟩:=ih x.dropLast (by rw[List.length_dropLast];omega) (hl.pre (List.dropLast_prefix x)) hd
    exact⟨q,hq,e.trans (List.dropLast_prefix x)⟩
 have inn:∀x,Inner L x↔P x:=fun x=>by
  constructor
  ·rintro⟨p,hp,h1,h2⟩
   exact c.pre _ _ (drop_pre h1 h2) ((hm p).mp hp).2.2.1
  ·intro hx
   obtain⟨q,hq,h1,h2⟩:=up N x hx (by omega)
   exact⟨q,hq,h1,h2⟩
 refine⟨⟨m2,m4,fun p hp=>((hm p).mp hp).2.1,fun p hp=>((hm p).mp hp).1,fun p hp q hq h=>?_,fun x hx=>?_,s,n⟩,inn⟩
 ·by_cases e:p=q
  ·exact e
  ·exact absurd (c.pre _ _ (drop_pre h e) ((hm q).mp hq).2.2.1) ((hm p).mp hp).2.2.2
 ·by_cases hP:P x
  ·obtain⟨q,hq,h1,_⟩:=up N x hP (by omega)
   exact⟨q,hq,.inr h1⟩
  ·obtain⟨q,hq,h1⟩:=down x.length x (Nat.le_refl _) hx hP
   exact⟨q,hq,.inl h1⟩
def Head (m:Nat)(B:List (List Nat))(x:List Nat):Prop:=x≠[]∧∀k∈kids m x,k∈B
def joinF (B:List (List Nat))(x:List Nat):List (List Nat):=sortF (B.filter (fun p=>!x.isPrefixOf p)++[x])
theorem Head.inner {m:Nat}{B:List (List Nat)}(h:Book m B){x:List Nat}(hx:Head m B x):Inner B x:=by
 have h97:97∈abcd.take m:=let_abcd h.m4 (by have:=h.m2;omega)
 exact⟨x++[97],hx.2 _ (kids_mem.mpr ⟨97,h97,rfl⟩),List.prefix_append _ _,fun e=>ne_snoc x 97 e.symm⟩
theorem Head.top {m:Nat}{B:List (List Nat)}(h:Book m B){x y:List Nat}(hx:Head m B x)(hy:Inner B y)(p:x <+: y):y=x:=by
 obtain⟨r,rfl⟩:=p
 cases r with
 | nil=>simp
 | cons c r =>
  have hc:=h.innerLet hy c (by simp)
  exact absurd (hx.2 _ (kids_mem.mpr ⟨c,let_abcd h.m4 hc,rfl⟩)) (h.inner_not hy ⟨r,by simp⟩)
theorem Book.join {m:Nat}{B:List (List Nat)}(h:Book m B){x:List Nat}(hx:Head m B x):Book m (joinF B x)∧∀y,Inner (joinF B x) y↔Inner B y∧y≠x:=by
 have hi:=hx.inner h
 have hxB:x∉B:=h.inner_not hi (List.prefix_refl x)
 refine Book.of h.m2 h.m4 (P:=fun y=>Inner B y∧y≠x) ⟨⟨h.nilInner,fun e=>hx.1 e.symm⟩,fun y hy=>h.innerLet hy.1,fun y z p hz=>⟨hz.1.pre p,fun e=>hz.2 (hx.top h hz.1 (e▸p))⟩,?_⟩ (sortF_srt _) ?_ fun p=>?_
 ·obtain⟨N,hN⟩:=h.clo.bd
  exact⟨N,fun y hy=>hN y hy.1⟩
 ·refine(sortF_perm _).nodup_iff.mpr (List.nodup_append.mpr ⟨h.nd.filter _,by simp,fun a ha b hb e=>?_⟩)
  rw[List.mem_singleton.mp hb] at e
  subst e
  exact hxB (List.mem_filter.mp ha).1
 ·unfold joinF
  rw[sortF_mem,List.mem_append,List.mem_filter,List.mem_singleton]
  have nb:(!x.isPrefixOf p)=true↔¬x <+: p:=by rw[Bool.not_eq_true',← Bool.not_eq_true,List.isPrefixOf_iff_prefix]
  rw[nb]
  constructor
  ·rintro (⟨hp,hnp⟩|rfl)
   ·obtain⟨a,b,c,d⟩:=h.mem_iff.mp hp
    exact⟨a,b,⟨c,fun e=>hnp (e▸List.dropLast_prefix p)⟩,fun e=>d e.1⟩
   ·exact⟨hx.1,h.innerLet hi,⟨hi.pre (List.dropLast_prefix _),drop_ne hx.1⟩,fun e=>e.2 rfl⟩
  ·rintro ⟨a,b,⟨c,c'⟩,d⟩
   by_cases e:p=x
   ·exact .inr e
   ·have hp:p∈B:=h.mem_iff.mpr ⟨a,b,c,fun z=>d ⟨z,e⟩⟩
    exact .inl ⟨hp,fun z=>c' (hx.top h c (drop_pre z fun z'=>e z'.symm))⟩
theorem Book.partAt {m:Nat}{B:List (List Nat)}(h:Book m B){p:List Nat}(hp:p∈B):Book m (My.part m B (B.idxOf p))∧∀x,Inner (My.part m B (B.idxOf p)) x↔Inner B x∨x=p:=by
 have hj:B.idxOf p<B.length:=List.idxOf_lt_length_iff.mpr hp
 refine⟨h.part hj,fun x=>?_⟩
 rw[inner_part' h.m2 h.m4 h hj]
 have:B.getD (B.idxOf p) []=p:=by rw[List.getD_eq_getElem?_getD,List.getElem?_eq_getElem hj];exact List.getElem_idxOf hj
 rw[this]
theorem Book.head_mem {m:Nat}{B:List (List Nat)}(h:Book m B){x:List Nat}(hx:Head m B x):x∈joinF B x:=by
 unfold joinF;rw[sortF_mem];simp
theorem Book.join_part {m:Nat}{B:List (List Nat)}(h:Book m B){x:List Nat}(hx:Head m B x):My.part m (joinF B x) ((joinF B x).idxOf x)=B:=by
 obtain⟨hb,hi⟩:=h.join hx
 obtain⟨kb,ki⟩:=hb.partAt (h.head_mem hx)
 refine kb.ext h fun y=>?_
 rw[ki,hi]
 constructor
 ·rintro(⟨a,_⟩|rfl)
  ·exact a
  ·exact hx.inner h
 ·intro a
  by_cases e:y=x
  ·exact .inr e
  ·exact .inl ⟨a,e⟩
theorem kids_inner {m:Nat}(m2:2≤m)(m4:m≤4)(x:List Nat):Inner (kids m []) x↔x=[]:=by
 constructor
 ·rintro⟨p,hp,hx,hn⟩
  obtain⟨c,_,rfl⟩:=kids_mem.mp hp
  rcases List.prefix_concat_iff.mp hx with e|e
  ·exact absurd e hn
  ·exact List.prefix_nil.mp e
 ·rintro rfl
  exact(Book.letters m2 m4).nilInner
theorem longest (L:List (List Nat))(P:List Nat→Prop) [DecidablePred P](h:∃x∈L,P x):∃x∈L,P x∧∀y∈L,P y→y.length≤x.length:=by
 induction L with
 | nil=>obtain⟨x,hx,_⟩:=h;cases hx
 | cons a L ih =>
  by_cases hL:∃x∈L,P x
  ·obtain ⟨x,hx,px,mx⟩:=ih hL
   by_cases ha:P a∧x.length≤a.length
   ·refine⟨a,.head _,ha.1,fun y hy py=>?_⟩
    rcases List.mem_cons.mp hy with rfl|hy
    ·exact Nat.le_refl _
    ·exact Nat.le_trans (mx y hy py) ha.2
   ·refine ⟨x,.tail _ hx,px,fun y hy py=>?_⟩
    rcases List.mem_cons.mp hy with rfl|hy
    ·have:¬x.length≤y.length:=fun z=>ha ⟨py,z⟩
     omega
    ·exact mx y hy py
  ·obtain ⟨x,hx,px⟩:=h
   rcases List.mem_cons.mp hx with rfl|hx
   ·refine⟨x,.head _,px,fun y hy py=>?_⟩
    rcases List.mem_cons.mp hy with rfl|hy
    ·exact Nat.le_refl _
    ·exact absurd ⟨y,hy,py⟩ hL
   ·exact absurd ⟨x,hx,px⟩ hL
theorem Book.hasHead {m:Nat}{B:List (List Nat)}(h:Book m B)(hx:∃x,Inner B x∧x≠[]):∃x,Head m B x:=by
 obtain⟨x0,h0,h1⟩:=hx
 obtain⟨x,hxk,hxn,hmax⟩:=longest (z6 B) (fun x=>x≠[]) ⟨x0,innerKeys_mem.mpr h0,h1⟩
 refine⟨x,hxn,fun k hk=>?_⟩
 obtain⟨c,hc,rfl⟩:=kids_mem.mp hk
 rcases h.step (innerKeys_mem.mp hxk) hc with⟨a,_⟩|⟨_,a⟩
 ·have:=hmax _ (innerKeys_mem.mpr a) (by simp)
  rw[List.length_append,List.length_singleton] at this
  omega
 ·exact a
theorem join_keys {m:Nat}{B:List (List Nat)}(h:Book m B){x:List Nat}(hx:Head m B x):(z6 (joinF B x)).length+1≤(z6 B).length:=by
 obtain⟨hb,hi⟩:=h.join hx
 have:(x::z6 (joinF B x)).length≤(z6 B).length:=by
  refine List.Nodup.length_le_of_subset (List.nodup_cons.mpr ⟨fun z=>((hi x).mp (innerKeys_mem.mp z)).2 rfl,innerKeys_nd _⟩) fun y hy=>?_
  rcases List.mem_cons.mp hy with rfl|hy
  ·exact innerKeys_mem.mpr (hx.inner h)
  ·exact innerKeys_mem.mpr ((hi y).mp (innerKeys_mem.mp hy)).1
 simpa using this
theorem Book.gr {m:Nat}:∀(n:Nat) {B:List (List Nat)},Book m B→(z6 B).length≤n→∃t,Gr m t B:=by
 intro n
 induction n with
 | zero =>
  intro B h hn
  have:[]∈z6 B:=innerKeys_mem.mpr h.nilInner
  rw[List.length_eq_zero_iff.mp (Nat.le_zero.mp hn)] at this
  cases this
 | succ n ih =>
  intro B h hn
  by_cases hx:∃x,Inner B x∧x≠[]
  ·obtain⟨x,hx⟩:=h.hasHead hx
   obtain⟨t,g⟩:=ih (h.join hx).1 (by have:=join_keys h hx;omega)
   refine⟨t+1,?_⟩
   have:=Gr.s g (List.idxOf_lt_length_iff.mpr (h.head_mem hx))
   rwa [h.join_part hx] at this
  ·refine ⟨0,?_⟩
   have e:B=kids m []:=h.ext (Book.letters h.m2 h.m4) fun x=>by
    rw[kids_inner h.m2 h.m4]
    constructor
    ·intro hi
     by_cases e:x=[]
     ·exact e
     ·exact absurd ⟨x,hi,e⟩ hx
    ·rintro rfl;exact h.nilInner
   rw[e];exact Gr.z
theorem Book.grAt {m:Nat}{B:List (List Nat)}(h:Book m B):∃t,Gr m t B∧(z6 B).length=t+1∧B.length=m+t*(m - 1):=by
 obtain⟨t,g⟩:=Book.gr _ h (Nat.le_refl _)
 exact⟨t,g,g.keysEq h.m2 h.m4,g.len h.m2 h.m4⟩
end My
namespace My
end My
namespace Pg
open PySem L2 My
theorem cA1 {fn:List D→Rs D}{f:Rho→Rs D}{ρ:Rho}{a:D}{r:Rs D}(e1:f ρ=.ok a)(e:fn [a]=r):fA (ari 1 fn) (zj f zE) ρ=r:=(fA1 e1).trans e
theorem cA2 {fn:List D→Rs D}{f g:Rho→Rs D}{ρ:Rho}{a b:D}{r:Rs D}(e1:f ρ=.ok a)(e2:g ρ=.ok b)(e:fn [a,b]=r):fA (ari 2 fn) (zj f (zj g zE)) ρ=r:=(fA2 e1 e2).trans e
theorem cA3 {fn:List D→Rs D}{f g h:Rho→Rs D}{ρ:Rho}{a b c:D}{r:Rs D}(e1:f ρ=.ok a)(e2:g ρ=.ok b)(e3:h ρ=.ok c)(e:fn [a,b,c]=r):fA (ari 3 fn) (zj f (zj g (zj h zE))) ρ=r:=(fA3 e1 e2 e3).trans e
theorem cA4 {fn:List D→Rs D}{f g h i:Rho→Rs D}{ρ:Rho}{a b c d:D}{r:Rs D}(e1:f ρ=.ok a)(e2:g ρ=.ok b)(e3:h ρ=.ok c)(e4:i ρ=.ok d)(e:fn [a,b,c,d]=r):fA (ari 4 fn) (zj f (zj g (zj h (zj i zE)))) ρ=r:=(fA4 e1 e2 e3 e4).trans e
theorem cA5 {fn:List D→Rs D}{f g h i j:Rho→Rs D}{ρ:Rho}{a b c d k:D}{r:Rs D}(e1:f ρ=.ok a)(e2:g ρ=.ok b)(e3:h ρ=.ok c)(e4:i ρ=.ok d)(e5:j ρ=.ok k)(e:fn [a,b,c,d,k]=r):fA (ari 5 fn) (zj f (zj g (zj h (zj i (zj j zE))))) ρ=r:=by
 unfold fA;rw[zJ e1 (zJ e2 (zJ e3 (zJ e4 (zJ e5 rfl))))];exact e
structure Bb (m:Nat)(B:List (List Nat)):Prop where
 pcs:Pcs m B
 bk:Book m B
theorem Bb.isB {m:Nat}{B:List (List Nat)}(h:Bb m B):isBook m B=true:=h.bk.isBook
theorem Bb.l32 {m:Nat}{B:List (List Nat)}(h:Bb m B):B.length≤32:=h.pcs.2.2.2.1
theorem Bb.l8 {m:Nat}{B:List (List Nat)}(h:Bb m B):∀p∈B,p.length≤31:=fun p hp=>(h.pcs.2.2.2.2 p hp).2.2
theorem bb_of {m:Nat}{B:List (List Nat)}(h:Book m B){n:Nat}(hn:(z6 B).length≤n)(h10:n≤10)(h8:∀p∈B,p.length≤31):Bb m B∧B.length≤1+n*3:=by
 obtain⟨t,g,e1,e2⟩:=h.grAt
 have m2:=h.m2
 have m4:=h.m4
 have:t*(m - 1)≤t*3:=Nat.mul_le_mul_left t (by omega)
 have hl:B.length≤1+n*3:=by omega
 refine⟨⟨⟨m2,m4,fun z=>?_,by omega,fun p hp=>⟨h.let_ p hp,h.ne p hp,h8 p hp⟩⟩,h⟩,hl⟩
 rw[z] at e2
 simp at e2
 omega
end Pg
namespace Pg
open PySem L2 My
theorem bAnd_ok {fa fb:Rho→Rs Bool}{ρ:Rho}{a b:Bool}(e1:fa ρ=.ok a)(e2:fb ρ=.ok b):bAnd fa fb ρ=.ok (a&&b):=by
 unfold bAnd;rw[e1];show(if a=true then fb ρ else .ok false)=_
 cases a
 ·rfl
 ·exact e2
theorem fI_ok {g:D→Option (List D)}{f:Rho→Rs D}{ρ:Rho}{a:D}{ds:List D}(e1:f ρ=.ok a)(e2:g a=some ds):fI g f ρ=.ok ds:=by
 unfold fI;rw[e1];show(match g a with|some ds=>Rs.ok ds|none=>.no)=_;rw[e2]
end Pg
namespace Pg
open PySem L2 My
theorem fIf_t {ft:Rho→Rs Bool}{fa fb:Rho→Rs D}{ρ:Rho}{r:Rs D}(e:ft ρ=.ok true)(e2:fa ρ=r):fIf ft fa fb ρ=r:=by unfold fIf;rw[e];exact e2
theorem fIf_f {ft:Rho→Rs Bool}{fa fb:Rho→Rs D}{ρ:Rho}{r:Rs D}(e:ft ρ=.ok false)(e2:fb ρ=r):fIf ft fa fb ρ=r:=by unfold fIf;rw[e];exact e2
theorem bAnd_f1 {f g:Rho→Rs Bool}{ρ:Rho}(e:f ρ=.ok false):bAnd f g ρ=.ok false:=by unfold bAnd;rw[e];rfl
structure Kc (m n:Nat)(B:List (List Nat)):Prop where
 bk:Book m B
 ks:(z6 B).length≤n
 l7:∀p∈B,p.length≤n
section
variable {m n:Nat}{B C S:List (List Nat)}
theorem Kc.bb (h:Kc m n B)(h8:n≤7):Bb m B:=(bb_of h.bk h.ks (by omega) fun p hp=>by have:=h.l7 p hp;omega).1
theorem Kc.len (h:Kc m n B)(h8:n≤7):B.length≤1+n*3:=(bb_of h.bk h.ks (by omega) fun p hp=>by have:=h.l7 p hp;omega).2
theorem Kc.of_gr (m2:2≤m)(m4:m≤4){t:Nat}(g:My.Gr m t B)(ht:t+1≤n):Kc m n B :=
 ⟨g.book m2 m4,by have:=g.keys m2 m4;omega,fun p hp=>by have:=g.short m2 m4 p hp;omega⟩
theorem Kc.part (h:Kc m n B){p:List Nat}(hp:p∈B):Kc m (n+1) (My.part m B (B.idxOf p)):=by
 obtain⟨b1,b2⟩:=h.bk.partAt hp
 refine⟨b1,?_,fun q hq=>?_⟩
 ·have:(z6 (My.part m B (B.idxOf p))).length≤(p::z6 B).length:=(innerKeys_nd _).length_le_of_subset fun x hx=>by
   rcases(b2 x).mp (innerKeys_mem.mp hx) with z|z
   ·exact .tail _ (innerKeys_mem.mpr z)
   ·exact z▸.head _
  have:=h.ks
  simp only[List.length_cons] at *
  omega
 ·rcases (part_mem h.bk.nd (List.idxOf_lt_length_iff.mpr hp)).mp hq with z|z
  ·have:=h.l7 q z.1
   omega
  ·obtain ⟨c,_,rfl⟩:=kids_mem.mp z
   have e:B.getD (B.idxOf p) []=p:=by
    rw[List.getD_eq_getElem?_getD,List.getElem?_eq_getElem (List.idxOf_lt_length_iff.mpr hp)]
    exact List.getElem_idxOf (List.idxOf_lt_length_iff.mpr hp)
   rw[e]
   have:=h.l7 p hp
   simp
   omega
end
theorem lenT_sT {f:Rho→Rs D}{ρ:Rho}{L:List (List Nat)}(e:f ρ=.ok (.tup (sT L))):fO lenD (zj f zE) ρ=.ok (.int (L.length:Int)):=fO_ok (zJ e rfl) (by show some (D.int ((sT L).length:Int))=_;rw[yK])
end Pg
namespace Pg
open PySem L2 My
theorem cutA_ok {α:Type}{f:Rho→Rs α}{ρ:Rho}{x:α}(e:f ρ=.ok x):cutA f ρ=.ok x:=by unfold cutA;rw[e]
theorem fA_ok {fn:List D→Rs D}{n:Nat}{fs:Rho→Rs (List D)}{ρ:Rho}{ds:List D}{r:Rs D}(e:fs ρ=.ok ds)(hl:ds.length=n)(h:fn ds=r):fA (ari n fn) fs ρ=r:=by
 unfold fA;rw[e];show ari n fn ds=r;unfold ari;rw[if_pos hl];exact h
theorem sSeq_ex {g h:Rho→Out}{ρ:Rho}{n:Nat}(e:g ρ=.ex n):zQ g h ρ=.ex n:=by unfold zQ;rw[e]
end Pg
set_option maxHeartbeats 4000000
namespace Pg
open PySem L2 My PyProof.Rows
mutual
theorem eqv_self:∀d:D,PyData.eqv d.py d.py=true
 | .non=>rfl
 | .bl b=>by cases b <;>rfl
 | .int i=>by show decide (i=i)=true;exact decide_eq_true rfl
 | .str l=>(eqv_str l l).trans (decide_eq_true rfl)
 | .lst xs=>eqvs_self xs
 | .tup xs=>eqvs_self xs
 | .dct _=>rfl
 | .exc _=>rfl
theorem eqvs_self:∀xs:List D,PyData.eqvAll (D.pys xs) (D.pys xs)=true
 | []=>rfl
 | d::ds=>by
  show(PyData.eqv d.py d.py&&PyData.eqvAll (D.pys ds) (D.pys ds))=true
  rw[eqv_self d,eqvs_self ds];rfl
end
theorem deps_le {n:Nat}:∀{xs:List D},(∀d∈xs,d.py.depth≤n)→PyData.depthAll (D.pys xs)≤n
 | [],_=>Nat.zero_le _
 | d::ds,h=>by
  show max (PyData.depth d.py) (PyData.depthAll (D.pys ds))≤n
  exact Nat.max_le.mpr ⟨h d List.mem_cons_self,deps_le fun e he=>h e (List.mem_cons_of_mem _ he)⟩
theorem eqD_self (neg:Bool){d:D}(h:d.pl=true)(hd:d.py.depth≤60):eqD neg d d=some (.bl (!neg)):=by
 unfold eqD
 rw[if_pos ⟨h,h,hd⟩,eqv_self d]
 cases neg <;>rfl
theorem dep_lst {n:Nat}{xs:List D}(h:∀d∈xs,d.py.depth≤n):(D.lst xs).py.depth≤n+1:=by
 show PyData.depthAll (D.pys xs)+1≤n+1
 have:=deps_le h
 omega
end Pg
namespace K43
open PySem L2 PyProof.Rows
open My
open Pg
def g_other_sign:Rho→Out :=
  (yI (fIf (bT (f2 (eqD false) (fNm 0) (fC (.str [48])))) (fC (.str [49])) (fC (.str [48]))))
def fn_other_sign:List D→Rs D:=yj 1 g_other_sign
def g_spoilt:Rho→Out :=
  (yI (f2 addS (f2 addS (fSl (fNm 0) yR (yq (fNm 1))) (fA (ari 1 fn_other_sign) (zj (f2 ixD (fNm 0) (fNm 1)) zE))) (fSl (fNm 0) (yq (f2 addI (fNm 1) (fC (.int 1)))) yR)))
def fn_spoilt:List D→Rs D:=yj 2 g_spoilt
abbrev hq10:=zj (fNm 4) (zj (fNm 5) zE)
abbrev hq17:=fR rng1 (zj (fO lenD (zj (fNm 4) zE)) zE)
abbrev hq20:=sDrop (fA (ari 2 yx) (zj (fNm 0) (zj (fNm 1) zE)))
def g_risky:Rho→Out :=
  (zQ hq20
  (zQ (yM 2 (fA (ari 1 yZ) (zj (fNm 1) zE)))
  (zQ (sSetO 3 (fL szL zE))
  (zQ (cutX (sFor 4 (fI lsD (fNm 2))
  (sFor 5 hq17
  (sIf (bT (f2 (inD true) (fA (ari 2 fn_spoilt) hq10) (fNm 2)))
  (sApp 3 (fO mkT hq10))
  sNx))))
  (sIce 3 (yI (fNm 3)))))))
def fn_risky:List D→Rs D:=yj 6 g_risky
abbrev hq6:=sRs 4 (zj (fC (.str [111,110,101,32,111,102,32,116,104,101,115,101,32,105,115,32,110,111,32,119,111,114,100,32,111,102,32,97,32,112,105,101,99,101])) zE)
def yN:Rho→Out :=
  (zQ (yM 2 (f2 zipDD (fA (ari 1 yZ) (zj (fNm 0) zE)) (fNm 0)))
  (zQ (sFor 3 (fI lsD (fNm 1))
  (sIf (bT (f2 (hasD true) (fNm 3) (fNm 2)))
  hq6
  sNx))
  (yI (fM isS joinD (fC (.str [])) (xJ (fI lsD (fNm 1)) bTrue (f2 getD (fNm 1) (fNm 0)) [2])))))
def zK:List D→Rs D:=yj 4 yN
abbrev hq4:=zj (fNm 1) (zj (fSl (fNm 4) (yq (fO maxD (zj (fNm 3) (zj (fC (.int 0)) zE)))) yR) zE)
abbrev hq11:=zj (fNm 1) (zj (fNm 2) zE)
abbrev hq23:=ari 2 zK
def g_from_word:Rho→Out :=
  (zQ hq20
  (zQ (yM 4 (fA (ari 2 fn_whole_words) hq11))
  (yI (fA hq23 hq4))))
def xj:List D→Rs D:=yj 5 g_from_word
def g_back:Rho→Out :=
  (yI (fA (ari 4 xj) (zj (fNm 0) (zj (fNm 1) (zj (fNm 2) (zj (fC (.int 0)) zE))))))
def yX:List D→Rs D:=yj 3 g_back
def g_require_between:Rho→Out :=
  (sIf (bNot (bT (fA (ari 3 xH) (zj (fNm 0) hq11))))
  (sRs 5 (zj (fC (.str [116,104,105,115,32,105,115,32,110,111,32,119,104,111,108,101,32,110,117,109,98,101,114,32,119,105,116,104,105,110,32,105,116,115,32,98,111,117,110,100,115])) zE))
  sNx)
def xO:List D→Rs D:=yj 3 g_require_between
abbrev hq5:=zj (fNm 0) (zj (fNm 1) (zj (fA (ari 2 fn_spoilt) (zj (fNm 2) (zj (fNm 3) zE))) zE))
abbrev hq22:=fO lenD (zj (fNm 2) zE)
def g_flipped:Rho→Out :=
  (zQ (sDrop (fA (ari 3 yX) (zj (fNm 0) hq11)))
  (zQ (sDrop (fA (ari 3 xO) (zj (fNm 3) (zj (fC (.int 0)) (zj (f2 subI hq22 (fC (.int 1))) zE)))))
  (yI (fA (ari 3 yX) hq5))))
def fn_flipped:List D→Rs D:=yj 4 g_flipped
abbrev hq19:=cutA (zj (fNm 0) (zj (fNm 1) (zj (fNm 2) (zj (fNm 3) zE))))
def g__law_flipped:Rho→Out :=
  (sTryN [4] (fA (ari 4 fn_flipped) hq19) (fC .non))
def xK:List D→Rs D:=yj 4 g__law_flipped
def g_unlike:Rho→Out :=
  (zQ (yM 4 (fA (ari 3 yF) (zj (fNm 0) hq11)))
  (zQ (yM 5 (fA (ari 3 yF) (zj (fNm 0) (zj (fNm 1) (zj (fNm 3) zE)))))
  (yI (fO lenD (zj (xJ hq17 (bT (f2 (eqD true) (f2 ixD (fNm 1) (fNm 0)) (f2 ixD (fNm 2) (fNm 0)))) (fNm 0) [4,5]) zE)))))
def xG:List D→Rs D:=yj 6 g_unlike
abbrev hq1:=yI (fC (.bl false))
def g__law_is_one:Rho→Out :=
  (zQ (yM 5 (fM isS joinD (fC (.str [])) (fSl (fNm 2) (yq (f2 addI (fNm 3) (fC (.int 1)))) yR)))
  (zQ (yM 6 (fM isS joinD (fC (.str [])) (fSl (fNm 2) yR (yq (fNm 3)))))
  (zQ (yM 7 (fSl (fNm 4) (yq (fO lenD (zj (fNm 6) zE))) (yq (f2 subI (fO lenD (zj (fNm 4) zE)) (fO lenD (zj (fNm 5) zE))))))
  (zQ (sIf (bOr (bNot (bT (fM isS yJ (fNm 4) (fNm 6)))) (bOr (bNot (bT (fM isS endsD (fNm 4) (fNm 5)))) (bT (f2 (inD true) (fNm 7) (fNm 1)))))
  hq1
  sNx)
  (yI (f2 (eqD false) (fA (ari 4 xG) (zj (fNm 0) (zj (fNm 1) (zj (fNm 7) (zj (f2 ixD (fNm 2) (fNm 3)) zE))))) (fC (.int 1))))))))
def fn__law_is_one:List D→Rs D:=yj 8 g__law_is_one
abbrev hq0:=f2 addS (fSl (fNm 6) yR (yq (fNm 7))) (fIf (bT (f2 (eqD false) (f2 ixD (fNm 6) (fNm 7)) (fC (.str [48])))) (fC (.str [49])) (fC (.str [48])))
abbrev hq2:=bT (f2 gtI (fNm 14) (f2 addI (fA (ari 4 xG) (zj (fNm 1) (zj (fNm 2) (zj (fNm 12) (zj (f2 ixD (fNm 5) (fC (.int 0))) zE))))) (fA (ari 4 xG) (zj (fNm 1) (zj (fNm 2) (zj (f2 ixD (fNm 5) (fC (.int 0))) (zj (fNm 13) zE)))))))
abbrev hq3:=bOr (bT (f2 (eqD true) (fNm 14) (fA (ari 4 xG) (zj (fNm 1) (zj (fNm 2) (zj (fNm 13) (zj (fNm 12) zE))))))) (bT (f2 (eqD true) (f2 (eqD false) (fNm 14) (fC (.int 0))) (f2 (eqD false) (fNm 12) (fNm 13))))
abbrev hq7:=bT (f2 (eqD true) (fA (ari 4 xK) (zj (fNm 1) (zj (fNm 2) (zj (fNm 11) (zj (fNm 7) zE))))) (fM isS joinD (fC (.str [])) (fNm 5)))
abbrev hq21:=fO mkT (zj (fNm 9) (zj (f2 modI (fNm 7) (fNm 3)) zE))
abbrev hq8:=bT (f2 (eqD true) (f1 (isN false) (fNm 10)) (f2 (inDD false) hq21 (fNm 4)))
abbrev hq9:=zj (fNm 1) (zj (fNm 2) (zj (f2 ixD (fNm 5) (fNm 8)) zE))
abbrev hq12:=bNot (bT (fA (ari 5 fn__law_is_one) (zj (fNm 1) (zj (fNm 2) (zj (fNm 5) (zj (fNm 8) (zj (fNm 10) zE)))))))
abbrev hq13:=fSl (fNm 6) (yq (f2 addI (fNm 7) (fC (.int 1)))) yR
abbrev hq14:=yM 10 (fA (ari 4 xK) (zj (fNm 1) (zj (fNm 2) (zj (fNm 6) (zj (fNm 7) zE)))))
abbrev hq15:=bT (f2 (eqD true) (fA (ari 3 yX) (zj (fNm 1) (zj (fNm 2) (zj (fNm 11) zE)))) (fNm 10))
abbrev hq16:=yM 14 (fA (ari 4 xG) (zj (fNm 1) (zj (fNm 2) (zj (fNm 12) (zj (fNm 13) zE)))))
abbrev hq18:=fO mkT (zj (fC (.int 2)) (zj (fC (.int 4)) (zj (fC (.int 8)) (zj (fC (.int 16)) zE))))
abbrev hq24:=f1 negI (fC (.int 1))
def g_law:Rho→Out :=
  (zQ (yM 1 (f2 addI (fC (.int 2)) (fA (ari 3 zZ) (zj (fNm 0) (zj (fC (.int 0)) (zj (fC (.int 3)) zE))))))
  (zQ (yM 2 (fA (ari 4 fn__law_book) (zj (fNm 0) (zj (fC (.int 20)) (zj (fNm 1) (zj (fA (ari 3 zZ) (zj (fNm 0) (zj (fC (.int 1)) (zj (fC (.int 5)) zE)))) zE))))))
  (zQ (yM 3 (fO lenD (zj (fA (ari 3 yF) (zj (fNm 1) (zj (fNm 2) (zj (f2 ixD (fNm 2) (fC (.int 0))) zE)))) zE)))
  (zQ (yM 4 (fA (ari 2 fn_risky) hq11))
  (zQ (sIf (bOr (bT (f2 (eqD true) (fNm 4) (fLs (fL1 setTD (fNm 4))))) (bAnd (bT (f2 (inD false) hq22 hq18)) (bT (f2 (eqD true) (fNm 4) (fO mkL zE)))))
  hq1
  sNx)
  (zQ (sSetA 5 (fCp (fR rng1 (zj (f2 addI (fC (.int 1)) (fA (ari 3 zZ) (zj (fNm 0) (zj (fC (.int 2)) (zj (fC (.int 5)) zE))))) zE)) bTrue (f2 ixD (fNm 1) (fA (ari 3 zZ) (zj (fNm 2) (zj (f2 addI (fC (.int 40)) (fNm 0)) (zj (fO lenD (zj (fNm 1) zE)) zE))))) [2,0]))
  (zQ (yM 6 (fM isS joinD (fC (.str [])) (xJ (fI lsD (fNm 5)) bTrue (fA (ari 3 yF) (zj (fNm 1) (zj (fNm 2) (zj (fNm 0) zE)))) [1,2])))
  (zQ (sIf (bT (f2 (eqD true) (fA (ari 3 yX) (zj (fNm 1) (zj (fNm 2) (zj (fNm 6) zE)))) (fM isS joinD (fC (.str [])) (fNm 5))))
  hq1
  sNx)
  (zQ (cutX (sFor 7 (fR rng1 (zj (fO lenD (zj (fNm 6) zE)) zE))
  (zQ (yM 8 (f2 fdivI (fNm 7) (fNm 3)))
  (zQ (yM 9 (fA (ari 3 yF) hq9))
  (zQ hq14
  (zQ (sIf hq8
  hq1
  sNx)
  (sIf (bT (f1 (isN true) (fNm 10)))
  (zQ (sIf hq12
  hq1
  sNx)
  (zQ (yM 11 (f2 addS hq0 hq13))
  (zQ (sIf hq15
  hq1
  sNx)
  (sIf hq7
  hq1
  sNx))))
  sNx)))))))
  (zQ (cutX (sFor 12 (fI lsD (fNm 5))
  (sFor 13 (fI lsD (fNm 5))
  (zQ hq16
  (zQ (sIf hq3
  hq1
  sNx)
  (sIf hq2
  hq1
  sNx))))))
  (yI (f2 (eqD false) (fA (ari 3 fn_piece_of) (zj (fNm 1) (zj (fNm 2) (zj (fA (ari 3 yF) (zj (fNm 1) (zj (fNm 2) (zj (f2 ixD (fNm 2) hq24) zE)))) zE)))) (f2 ixD (fNm 2) hq24)))))))))))))
def fn_law:List D→Rs D:=yj 15 g_law
end K43
namespace K43
open PySem L2 My Pg
section
variable {m:Nat}{B:List (List Nat)}
theorem bits1 (h2:2≤B.length):1≤zM B.length:=by unfold zM;(repeat' split) <;>omega
theorem sRet_ex {f:Rho→Rs D}{ρ:Rho}{n:Nat}(e:f ρ=.ex n):yI f ρ=.ex n:=by unfold yI;rw[e]
theorem back_of {b c:D}{r:Rs D}(h:xj [.int m,b,c,.int 0]=r)(hr:(∃d,r=.ok d)∨∃n,r=.ex n):yX [.int m,b,c]=r:=by
 rcases hr with⟨d,rfl⟩|⟨n,rfl⟩
 ·exact zV (yE (cA4 (a:=.int m) (b:=b) (c:=c) (d:=.int 0) rfl rfl rfl rfl h))
 ·exact runD_ex (sRet_ex (cA4 (a:=.int m) (b:=b) (c:=c) (d:=.int 0) rfl rfl rfl rfl h))
abbrev gT:Rho→Out:=sIf (bT (f2 (hasD true) (fNm 3) (fNm 2))) hq6 sNx
theorem text_of_eq (h32:B.length≤32){cs:List (List Nat)}(hin:∀p∈cs,p∈B)(h8:∀p∈B,p.length≤31)(hl:cs.length≤1000):zK [.tup (sT B),.lst (sT (cs.map (wd B)))]=.ok (.str cs.flatten):=by
 refine zV ((zA (ρ':=[.fz (.tup (sT B)),.fz (.lst (sT (cs.map (wd B)))),.fz (.dct ((W B.length).zip (sT B))),.no]) (zF (zR (a:=.lst (sT (W B.length))) (b:=.tup (sT B)) ((fA1 (a:=.tup (sT B)) rfl).trans (words_of_eq h32)) rfl (zip_back h32)))).trans ?_)
 have em:sT (cs.map (wd B))=cs.map fun p=>.str (wd B p):=by unfold sT;rw[List.map_map];rfl
 obtain ⟨ρ',e,s,rfl⟩:=forD_inv (i:=3) (g:=gT) (ρ:=[.fz (.tup (sT B)),.fz (.lst (sT (cs.map (wd B)))),.fz (.dct ((W B.length).zip (sT B))),.no]) (l:=cs) (enc:=fun p=>D.str (wd B p)) (fun _ ρ=>∃s,ρ=[.fz (.tup (sT B)),.fz (.lst (sT (cs.map (wd B)))),.fz (.dct ((W B.length).zip (sT B))),s]) ⟨.no,rfl⟩ (by
  rintro k p ρ hk ⟨s,rfl⟩
  have hpB:=hin p (List.mem_of_getElem? hk)
  refine⟨_,ifF (yV (zR (a:=.str (wd B p)) (b:=.dct ((W B.length).zip (sT B))) rfl rfl ?_)),.fz (.str (wd B p)),rfl⟩
  show some (D.bl (!(getK ((W B.length).zip (sT B)) (wd B p)).isSome))=_
  rw[get_back h32 hpB];rfl)
 refine(zA ((sFor_ok (fI_ok (a:=.lst (cs.map fun p=>.str (wd B p))) (by rw[← em];rfl) rfl)).trans e)).trans ?_
 have e1:=yQ (fe:=f2 getD (fNm 1) (fNm 0)) (ρ0:=[.no,.fz (.dct ((W B.length).zip (sT B)))]) (l:=cs) (enc:=fun p=>D.str (wd B p)) (fun p=>.str p) fun p hpc=>zR (a:=.dct ((W B.length).zip (sT B))) (b:=.str (wd B p)) rfl rfl (get_back h32 (hin p hpc))
 have hfl:cs.flatten.length≤31*cs.length:=by
  clear e1 hl em e
  induction cs with
  | nil=>simp
  | cons p cs ih =>
   have:=ih fun q hq=>hin q (.tail _ hq)
   have:=h8 p (hin p (.head _))
   rw[List.flatten_cons,List.length_append,List.length_cons]
   omega
 refine yE (fM_ok (a:=.str []) (b:=.lst (sT cs)) rfl rfl (fComp_ok (ds:=cs.map fun p=>.str (wd B p)) (by rw[em];rfl) (by rw[List.length_map];omega) e1) ?_)
 dsimp only [joinD]
 rw[map_unS,if_pos ⟨all_isS _,by omega⟩]
theorem getK_none:∀(ks:List (List Nat)) (ds:List D) {k:List Nat},k∉ks→getK (ks.zip ds) k=none
 | [],ds,k,h=>by cases ds <;>rfl
 | a::ks,[],k,h=>rfl
 | a::ks,d::ds,k,h=>by
  rw[List.zip_cons_cons]
  unfold getK
  rw[List.find?_cons_of_neg (by simp;exact fun e=>h (e▸List.mem_cons_self))]
  exact getK_none ks ds fun z=>h (List.mem_cons_of_mem _ z)
theorem text_of_bad (h32:B.length≤32){cs:List (List Nat)}(hin:∀p∈cs,p∈B){w:List Nat}(hw:w∉W B.length)(rest:List (List Nat)):zK [.tup (sT B),.lst (sT (cs.map (wd B)++w::rest))]=.ex 4:=by
 refine runD_ex ((zA (ρ':=[.fz (.tup (sT B)),.fz (.lst (sT (cs.map (wd B)++w::rest))),.fz (.dct ((W B.length).zip (sT B))),.no]) (zF (zR (a:=.lst (sT (W B.length))) (b:=.tup (sT B)) ((fA1 (a:=.tup (sT B)) rfl).trans (words_of_eq h32)) rfl (zip_back h32)))).trans ?_)
 refine sSeq_ex ((sFor_ok (fI_ok (a:=.lst (sT (cs.map (wd B)++w::rest))) rfl rfl)).trans ?_)
 have key:∀(ds:List (List Nat)) (L:Sl) (s:Sl),(∀p∈ds,p∈B)→forD 3 gT (sT (ds.map (wd B)++w::rest)) [.fz (.tup (sT B)),L,.fz (.dct ((W B.length).zip (sT B))),s]=.ex 4:=by
  intro ds
  induction ds with
  | nil =>
   intro L s _
   have e:gT [.fz (.tup (sT B)),L,.fz (.dct ((W B.length).zip (sT B))),.fz (.str w)]=.ex 4:=by
    refine(sIf_t (yV (zR (a:=.str w) (b:=.dct ((W B.length).zip (sT B))) rfl rfl ?_))).trans rfl
    show some (D.bl (!(getK ((W B.length).zip (sT B)) w).isSome))=_
    rw[getK_none _ _ hw];rfl
   show(match gT [.fz (.tup (sT B)),L,.fz (.dct ((W B.length).zip (sT B))),.fz (.str w)] with | .nx ρ'=>forD 3 _ (sT rest) ρ' | .ct ρ'=>forD 3 _ (sT rest) ρ' | .bk ρ'=>.nx ρ'|o=>o)=_
   rw[e]
  | cons p ds ih =>
   intro L s hs
   have e:gT [.fz (.tup (sT B)),L,.fz (.dct ((W B.length).zip (sT B))),.fz (.str (wd B p))]=.nx [.fz (.tup (sT B)),L,.fz (.dct ((W B.length).zip (sT B))),.fz (.str (wd B p))]:=by
    refine ifF (yV (zR (a:=.str (wd B p)) (b:=.dct ((W B.length).zip (sT B))) rfl rfl ?_))
    show some (D.bl (!(getK ((W B.length).zip (sT B)) (wd B p)).isSome))=_
    rw[get_back h32 (hs p List.mem_cons_self)];rfl
   show(match gT [.fz (.tup (sT B)),L,.fz (.dct ((W B.length).zip (sT B))),.fz (.str (wd B p))] with | .nx ρ'=>forD 3 _ (sT (ds.map (wd B)++w::rest)) ρ' | .ct ρ'=>forD 3 _ (sT (ds.map (wd B)++w::rest)) ρ' | .bk ρ'=>.nx ρ'|o=>o)=_
   rw[e]
   exact ih L _ fun q hq=>hs q (List.mem_cons_of_mem _ hq)
 exact key cs _ _ hin
theorem joinS {f:Rho→Rs D}{ρ:Rho}{L:List (List Nat)}(e:f ρ=.ok (.lst (sT L)))(hl:L.flatten.length≤1000000):fM isS joinD (fC (.str [])) f ρ=.ok (.str L.flatten):=by
 refine fM_ok (a:=.str []) (b:=.lst (sT L)) rfl rfl e ?_
 dsimp only [joinD]
 rw[map_unS,if_pos ⟨all_isS _,hl⟩]
theorem strT (x:List Nat):eqD true (.str x) (.str x)=some (.bl false):=(eqD_str true x x).trans (by simp)
theorem addS_ok {f g:Rho→Rs D}{ρ:Rho}{a b:List Nat}(e1:f ρ=.ok (.str a))(e2:g ρ=.ok (.str b))(h:a.length+b.length≤1000000):f2 addS f g ρ=.ok (.str (a++b)):=zR e1 e2 (if_pos h)
def oth (c:Nat):Nat:=if c=48 then 49 else 48
def flip (l:List Nat)(k:Nat):List Nat:=l.take k++[oth (l.getD k 0)]++l.drop (k+1)
theorem flip_len {l:List Nat}{k:Nat}(h:k<l.length):(flip l k).length=l.length:=by
 unfold flip
 simp only[List.length_append,List.length_take,List.length_drop,List.length_singleton]
 omega
theorem ix_str {l:List Nat}{k:Nat}(h:k<l.length):ixD (.str l) (.int (k:Int))=some (.str [l.getD k 0]):=by
 have e:atI l (k:Int)=some (l.getD k 0):=by
  unfold atI
  rw[ixN_nat h]
  show l[k]? = _
  rw[List.getD_eq_getElem?_getD,List.getElem?_eq_getElem h]
  rfl
 show(atI l (k:Int)).map (fun c=>D.str [c])=_
 rw[e];rfl
theorem other_eq (c:Nat):fn_other_sign [.str [c]]=.ok (.str [oth c]):=by
 unfold oth
 by_cases e:c=48
 ·rw[if_pos e,e];rfl
 ·rw[if_neg e]
  refine zV (yE (fIf_f (yV (zR (a:=.str [c]) (b:=.str [48]) rfl rfl ((eqD_str false _ _).trans (by simp[e])))) rfl))
theorem spoil_ok {fs fp fo:Rho→Rs D}{ρ:Rho}{l:List Nat}{k:Nat}(h:k<l.length)(hl:l.length≤1000)(e1:fs ρ=.ok (.str l))(e2:fp ρ=.ok (.int (k:Int)))(e3:fo ρ=.ok (.str [oth (l.getD k 0)])) :
  f2 addS (f2 addS (fSl fs yR (yq fp)) fo) (fSl fs (yq (f2 addI fp (fC (.int 1)))) yR) ρ=.ok (.str (flip l k)):=by
 have s1:fSl fs yR (yq fp) ρ=.ok (.str (l.take k)):=fSl_ok (a:=.str l) (l:=none) (h:=some (k:Int)) e1 rfl (by unfold yq;rw[e2];rfl) (by show some (D.str (cutL l none (some (k:Int))))=_;rw[cut_none])
 have s2:fSl fs (yq (f2 addI fp (fC (.int 1)))) yR ρ=.ok (.str (l.drop (k+1))):=by
  refine fSl_ok (a:=.str l) (l:=some ((k+1:Nat):Int)) (h:=none) e1 ?_ rfl (by show some (D.str (cutL l (some ((k+1:Nat):Int)) none))=_;rw[cut_from])
  unfold yq
  rw[addI_ok (i:=(k:Int)) (j:=1) e2 rfl]
  rfl
 have t1:(l.take k).length≤1000:=by rw[List.length_take];omega
 have t2:(l.drop (k+1)).length≤1000:=by rw[List.length_drop];omega
 refine addS_ok (addS_ok s1 e3 (by show(l.take k).length+1≤_;omega)) s2 ?_
 rw[List.length_append]
 show(l.take k).length+1+_≤_
 omega
theorem spoilt_eq {l:List Nat}{k:Nat}(h:k<l.length)(hl:l.length≤1000):fn_spoilt [.str l,.int (k:Int)]=.ok (.str (flip l k)) :=
 zV (yE (spoil_ok (fs:=fNm 0) (fp:=fNm 1) h hl rfl rfl (cA1 (a:=.str [l.getD k 0]) (zR (a:=.str l) (b:=.int (k:Int)) rfl rfl (ix_str h)) (other_eq _))))
def pc (B:List (List Nat))(w:List Nat):List Nat:=B.getD ((W B.length).idxOf w) []
theorem pc_mem {w:List Nat}(h:w∈W B.length):pc B w∈B:=by
 have hi:=List.idxOf_lt_length_iff.mpr h
 rw[W_len] at hi
 unfold pc
 rw[List.getD_eq_getElem?_getD,List.getElem?_eq_getElem hi]
 exact List.getElem_mem hi
theorem wd_pc (s:B.Pairwise (· < ·)){w:List Nat}(h:w∈W B.length):wd B (pc B w)=w:=by
 have hw:=List.idxOf_lt_length_iff.mpr h
 have hi:=hw
 rw[W_len] at hi
 have e:pc B w=B[(W B.length).idxOf w]:=by unfold pc;rw[List.getD_eq_getElem?_getD,List.getElem?_eq_getElem hi];rfl
 unfold wd
 rw[e,idx_lt s hi,List.getD_eq_getElem?_getD,List.getElem?_eq_getElem hw]
 exact List.getElem_idxOf hw
theorem pc_map (s:B.Pairwise (· < ·)):∀{ws:List (List Nat)},(∀w∈ws,w∈W B.length)→(ws.map (pc B)).map (wd B)=ws
 | [],_=>rfl
 | w::ws,h=>by rw[List.map_cons,List.map_cons,wd_pc s (h w List.mem_cons_self),pc_map s fun x hx=>h x (List.mem_cons_of_mem _ hx)]
theorem text_any (h:Bb m B){ws:List (List Nat)}(hl:ws.length≤1000):((∀w∈ws,w∈W B.length)∧zK [.tup (sT B),.lst (sT ws)]=.ok (.str (ws.map (pc B)).flatten))∨((∃w∈ws,w∉W B.length)∧zK [.tup (sT B),.lst (sT ws)]=.ex 4):=by
 have s:=My.strict h.bk.srt h.bk.nd
 by_cases c:∀w∈ws,w∈W B.length
 ·refine .inl ⟨c,?_⟩
  have e:=text_of_eq h.l32 (cs:=ws.map (pc B)) (fun p hp=>by obtain⟨w,hw,rfl⟩:=List.mem_map.mp hp;exact pc_mem (c w hw)) h.l8 (by rw[List.length_map];exact hl)
  rw[pc_map s c] at e
  exact e
 ·have c':∃w∈ws,w∉W B.length:=by
   refine Classical.byContradiction fun z=>c fun w hw=>Classical.byContradiction fun y=>z ⟨w,hw,y⟩
  refine .inr ⟨c',?_⟩
  have key:∀{ws:List (List Nat)},(∃w∈ws,w∉W B.length)→∃a w r,ws=a++w::r∧(∀x∈a,x∈W B.length)∧w∉W B.length:=by
   intro ws
   induction ws with
   | nil=>rintro⟨w,hw,_⟩;cases hw
   | cons x ws ih =>
    rintro⟨w,hw,hn⟩
    by_cases hx:x∈W B.length
    ·rcases List.mem_cons.mp hw with rfl|hw
     ·exact absurd hx hn
     ·obtain⟨a,w',r,e,h1,h2⟩:=ih ⟨w,hw,hn⟩
      refine⟨x::a,w',r,by rw[e];rfl,fun y hy=>?_,h2⟩
      rcases List.mem_cons.mp hy with rfl|hy
      ·exact hx
      ·exact h1 y hy
    ·exact⟨[],x,ws,rfl,fun y hy=>(by cases hy),hx⟩
  obtain⟨a,w,r,e,h1,h2⟩:=key c'
  have e2:=text_of_bad h.l32 (cs:=a.map (pc B)) (fun p hp=>by obtain⟨w,hw,rfl⟩:=List.mem_map.mp hp;exact pc_mem (h1 w hw)) h2 r
  rw[pc_map s h1,← e] at e2
  exact e2
theorem from_any (h:Bb m B)(h2:2≤B.length){ws:List (List Nat)}(hw:∀w∈ws,w.length=zM B.length)(hl:ws.length≤1000):xj [.int m,.tup (sT B),.str ws.flatten,.int 0]=zK [.tup (sT B),.lst (sT ws)]:=by
 have e0:fA hq23 hq4 [.fz (.int m),.fz (.tup (sT B)),.fz (.str ws.flatten),.fz (.int 0),.fz (.lst (sT ws))]=zK [.tup (sT B),.lst (sT ws)]:=by
  refine fA2 (a:=.tup (sT B)) (b:=.lst (sT ws)) rfl (fSl_ok (a:=.lst (sT ws)) (l:=some 0) (h:=none) rfl rfl rfl ?_)
  show some (D.lst (cutL (sT ws) (some ((0:Nat):Int)) none))=_
  rw[cut_from];rfl
 have es:∀o,yI (fA hq23 hq4) [.fz (.int m),.fz (.tup (sT B)),.fz (.str ws.flatten),.fz (.int 0),.fz (.lst (sT ws))]=o→g_from_word [.fz (.int m),.fz (.tup (sT B)),.fz (.str ws.flatten),.fz (.int 0),.no]=o:=fun o ho =>
  (zA (sDrop_ok ((fA2 (a:=.int m) (b:=.tup (sT B)) rfl rfl).trans (require_book_eq h.pcs h.isB)))).trans ((zA (ρ':=[.fz (.int m),.fz (.tup (sT B)),.fz (.str ws.flatten),.fz (.int 0),.fz (.lst (sT ws))]) (zF ((fA2 (a:=.tup (sT B)) (b:=.str ws.flatten) rfl rfl).trans (whole_words_eq h2 h.l32 hw hl)))).trans ho)
 rcases text_any h hl with⟨_,e⟩|⟨_,e⟩
 ·rw[e] at e0 ⊢;exact zV (es _ (yE e0))
 ·rw[e] at e0 ⊢;exact runD_ex (es _ (sRet_ex e0))
theorem back_any (h:Bb m B)(h2:2≤B.length){ws:List (List Nat)}(hw:∀w∈ws,w.length=zM B.length)(hl:ws.length≤1000):((∀w∈ws,w∈W B.length)∧yX [.int m,.tup (sT B),.str ws.flatten]=.ok (.str (ws.map (pc B)).flatten))∨((∃w∈ws,w∉W B.length)∧yX [.int m,.tup (sT B),.str ws.flatten]=.ex 4):=by
 have e:=from_any h h2 hw hl
 rcases text_any h hl with⟨c,e'⟩|⟨c,e'⟩
 ·exact .inl ⟨c,back_of (e.trans e') (.inl ⟨_,rfl⟩)⟩
 ·exact .inr ⟨c,back_of (e.trans e') (.inr ⟨_,rfl⟩)⟩
theorem between_ok {k n:Int}(h0:0≤k)(h1:k≤n):xO [.int k,.int 0,.int n]=.ok .non:=by
 refine runD_nx (ifF (bNot_ok (b:=true) (yV ((cA3 (a:=.int k) (b:=.int 0) (c:=.int n) rfl rfl rfl (is_between_int _ _ _)).trans ?_))))
 rw[decide_eq_true h0,decide_eq_true h1];rfl
theorem len_sub {l:List Nat}{f:Rho→Rs D}{ρ:Rho}(e:f ρ=.ok (.str l)):f2 subI (fO lenD (zj f zE)) (fC (.int 1)) ρ=.ok (.int ((l.length:Int) - 1)):=subI_ok (fO_ok (ds:=[.str l]) (zJ e rfl) rfl) rfl
theorem flipped_ok (h:Bb m B)(h2:2≤B.length){ws:List (List Nat)}(hin:∀w∈ws,w∈W B.length)(hl:ws.length≤100){k:Nat}(hk:k<ws.flatten.length){r:Rs D}(hr:(∃d,r=.ok d)∨∃n,r=.ex n)(hb:yX [.int m,.tup (sT B),.str (flip ws.flatten k)]=r) :
  fn_flipped [.int m,.tup (sT B),.str ws.flatten,.int (k:Int)]=r:=by
 have b5:=bits5 B.length
 have fl:ws.flatten.length≤500:=by
  have:ws.flatten.length=ws.length*zM B.length:=by
   clear hk hb hl
   induction ws with
   | nil=>simp
   | cons w ws ih=>rw[List.flatten_cons,List.length_append,ih (fun x hx=>hin x (List.mem_cons_of_mem _ hx)),W_el (hin w List.mem_cons_self),List.length_cons,Nat.succ_mul];omega
  have h':ws.length*zM B.length≤100*5:=Nat.mul_le_mul hl b5
  omega
 obtain ⟨_,e1⟩:(∀w∈ws,w∈W B.length)∧yX [.int m,.tup (sT B),.str ws.flatten]=.ok (.str (ws.map (pc B)).flatten):=by
  rcases back_any h h2 (fun w hw=>W_el (hin w hw)) (by omega) with e|⟨⟨w,hw,hn⟩,_⟩
  ·exact e
  ·exact absurd (hin w hw) hn
 have key:∀o,yI (fA (ari 3 yX) hq5) [.fz (.int m),.fz (.tup (sT B)),.fz (.str ws.flatten),.fz (.int (k:Int))]=o→g_flipped [.fz (.int m),.fz (.tup (sT B)),.fz (.str ws.flatten),.fz (.int (k:Int))]=o:=fun o ho =>
  (zA (sDrop_ok (cA3 (a:=.int m) (b:=.tup (sT B)) (c:=.str ws.flatten) rfl rfl rfl e1))).trans ((zA (sDrop_ok (cA3 (a:=.int (k:Int)) (b:=.int 0) (c:=.int ((ws.flatten.length:Int) - 1)) rfl rfl (len_sub rfl) (between_ok (by omega) (by omega))))).trans ho)
 have e2:fA (ari 3 yX) hq5 [.fz (.int m),.fz (.tup (sT B)),.fz (.str ws.flatten),.fz (.int (k:Int))]=r:=cA3 (a:=.int m) (b:=.tup (sT B)) (c:=.str (flip ws.flatten k)) rfl rfl (cA2 (a:=.str ws.flatten) (b:=.int (k:Int)) rfl rfl (spoilt_eq hk (by omega))) hb
 rcases hr with⟨d,rfl⟩|⟨n,rfl⟩
 ·exact zV (key _ (yE e2))
 ·exact runD_ex (key _ (sRet_ex e2))
def R (n:Nat):List (List Nat×Nat):=(W n).flatMap fun w=>((List.range (zM n)).filter fun k=>decide (flip w k∉W n)).map fun k=>(w,k)
def rwD (x:List Nat×Nat):D:=.tup [.str x.1,.int (x.2:Int)]
theorem R_ris:∀n<17,(R n).length<64∧(R n).Pairwise (fun a b=>a.1<b.1∨a.1=b.1∧a.2<b.2):=by decide +kernel
theorem kk_rw (x:List Nat×Nat):kkOf (rwD x)=[.inr (T x.1),.inl (x.2:Int)]:=rfl
theorem rw_lt {x y:List Nat×Nat}(h:x.1<y.1∨x.1=y.1∧x.2<y.2):ksLt (kkOf (rwD x)) (kkOf (rwD y))=true:=by
 rw[kk_rw,kk_rw]
 unfold ksLt
 rcases h with h|⟨h1,h2⟩
 ·have ne:(Sum.inr (T x.1):Key)≠.inr (T y.1):=fun z=>by
   injection z with z
   rw[T_inj z] at h
   exact List.lt_irrefl _ h
  rw[if_neg ne]
  show decide ((T x.1).cps.toList<(T y.1).cps.toList)=true
  rw[T_cps,T_cps]
  exact decide_eq_true h
 ·rw[if_pos (by rw[h1])]
  unfold ksLt
  have ne:(Sum.inl (x.2:Int):Key)≠.inl (y.2:Int):=fun z=>by injection z with z;omega
  rw[if_neg ne]
  exact decide_eq_true (by omega)
theorem R_srt {n:Nat}(hn:n<17):SrtD ((R n).map rwD)∧RisP ((R n).map rwD):=by
 obtain⟨l64,pw⟩:=R_ris n hn
 have ris:RisP ((R n).map rwD):=by
  unfold RisP
  rw[List.pairwise_map]
  exact pw.imp fun h=>rw_lt h
 refine⟨⟨⟨⟨false,fun ks hk=>?_⟩,fun x hx y hy=>?_,?_⟩,fun d hd=>?_,by rw[List.length_map];exact l64⟩,ris⟩
 ·obtain⟨d,hd,rfl⟩:=List.mem_map.mp hk
  obtain⟨x,_,rfl⟩:=List.mem_map.mp hd
  exact⟨_,_,kk_rw x,rfl⟩
 ·obtain⟨d,hd,rfl⟩:=List.mem_map.mp hx
  obtain⟨x',_,rfl⟩:=List.mem_map.mp hd
  obtain⟨d,hd,rfl⟩:=List.mem_map.mp hy
  obtain⟨y',_,rfl⟩:=List.mem_map.mp hd
  rw[kk_rw,kk_rw];rfl
 ·refine List.pairwise_map.mpr (ris.imp fun {a b} h z=>?_)
  rw[z,ksLt_ir] at h
  cases h
 ·obtain⟨x,_,rfl⟩:=List.mem_map.mp hd
  rfl
def rowsOf (n:Nat)(w:List Nat)(k:Nat):List (List Nat×Nat):=((List.range k).filter fun k=>decide (flip w k∉W n)).map fun k=>(w,k)
theorem rowsOf_succ (n:Nat)(w:List Nat)(k:Nat):rowsOf n w (k+1)=rowsOf n w k++(if flip w k∉W n then[(w,k)] else[]):=by
 unfold rowsOf
 rw[List.range_succ,List.filter_append,List.map_append]
 congr 1
 by_cases c:flip w k∉W n <;>simp[c]
theorem R_len {n:Nat}(L:List (List Nat)):(L.flatMap fun w=>rowsOf n w (zM n)).length≤L.length*zM n:=by
 induction L with
 | nil=>simp
 | cons w L ih =>
  rw[List.flatMap_cons,List.length_append,List.length_cons,Nat.succ_mul]
  have:(rowsOf n w (zM n)).length≤zM n:=by
   unfold rowsOf
   rw[List.length_map]
   have:=List.length_filter_le (fun k=>decide (flip w k∉W n)) (List.range (zM n))
   rw[List.length_range] at this
   exact this
  omega
theorem rows_le (n:Nat)(w:List Nat)(k:Nat):(rowsOf n w k).length≤k:=by
 unfold rowsOf
 rw[List.length_map]
 have:=List.length_filter_le (fun k=>decide (flip w k∉W n)) (List.range k)
 rw[List.length_range] at this
 exact this
theorem in_W {fs fw:Rho→Rs D}{ρ:Rho}{x:List Nat}{n:Nat}(e1:fs ρ=.ok (.str x))(e2:fw ρ=.ok (.lst (sT (W n)))):f2 (inD true) fs fw ρ=.ok (.bl (decide (x∉W n))):=by
 refine zR e1 e2 ((inQ_sT true x (W n)).trans ?_)
 by_cases c:x∈W n <;>simp[c]
abbrev gK:Rho→Out:=sIf (bT (f2 (inD true) (fA (ari 2 fn_spoilt) hq10) (fNm 2))) (sApp 3 (fO mkT hq10)) sNx
theorem risky_eq (h:Bb m B)(hn:B.length<17):fn_risky [.int m,.tup (sT B)]=.ok (.lst ((R B.length).map rwD)):=by
 have b5:=bits5 B.length
 have inner:∀(w:List Nat) (rows:List (List Nat×Nat)) (s5:Sl),w∈W B.length→rows.length≤100→∃s5',forD 5 gK ((List.range (zM B.length)).map fun(k:Nat)=>D.int (k:Int)) [.fz (.int m),.fz (.tup (sT B)),.fz (.lst (sT (W B.length))),.ow (rows.map rwD),.fz (.str w),s5]=.nx [.fz (.int m),.fz (.tup (sT B)),.fz (.lst (sT (W B.length))),.ow ((rows++rowsOf B.length w (zM B.length)).map rwD),.fz (.str w),s5']:=by
  intro w rows s5 hw hr
  have wl:=W_el hw
  obtain ⟨ρ',e,s5',rfl⟩:=forD_inv (i:=5) (g:=gK) (l:=List.range (zM B.length)) (enc:=fun(k:Nat)=>D.int (k:Int)) (ρ:=[.fz (.int m),.fz (.tup (sT B)),.fz (.lst (sT (W B.length))),.ow (rows.map rwD),.fz (.str w),s5])
   (fun k ρ=>∃s,ρ=[.fz (.int m),.fz (.tup (sT B)),.fz (.lst (sT (W B.length))),.ow ((rows++rowsOf B.length w k).map rwD),.fz (.str w),s]) ⟨s5,by rw[show rowsOf B.length w 0=[] from rfl,List.append_nil]⟩ (by
    rintro i k ρ hk ⟨s,rfl⟩
    obtain⟨hi,ek⟩:=List.getElem?_eq_some_iff.mp hk
    rw[List.getElem_range] at ek
    subst ek
    rw[List.length_range] at hi
    have rl:=rows_le B.length w i
    have et:=yV (in_W (n:=B.length) (fs:=fA (ari 2 fn_spoilt) hq10) (fw:=fNm 2) (ρ:=[.fz (.int m),.fz (.tup (sT B)),.fz (.lst (sT (W B.length))),.ow ((rows++rowsOf B.length w i).map rwD),.fz (.str w),.fz (.int (i:Int))]) (cA2 (a:=.str w) (b:=.int (i:Int)) rfl rfl (spoilt_eq (by omega) (by omega))) rfl)
    rw[rowsOf_succ]
    by_cases c:flip w i∉W B.length
    ·rw[decide_eq_true c] at et
     rw[if_pos c,← List.append_assoc]
     have e4:(rows++rowsOf B.length w i++[(w,i)]).map rwD=(rows++rowsOf B.length w i).map rwD++[rwD (w,i)]:=by rw[List.map_append];rfl
     rw[e4]
     exact⟨_,(sIf_t et).trans (sApp_ok (ds:=(rows++rowsOf B.length w i).map rwD) (d:=rwD (w,i)) rfl rfl (by rw[List.length_map,List.length_append];omega)),_,rfl⟩
    ·rw[decide_eq_false c] at et
     rw[if_neg c,List.append_nil]
     exact⟨_,(sIf_f et).trans rfl,_,rfl⟩)
  rw[List.length_range] at e
  exact⟨s5',e⟩
 obtain ⟨ρ',e,s4,s5,rfl⟩:=forD_inv (i:=4) (g:=sFor 5 hq17 gK) (l:=W B.length) (enc:=D.str) (ρ:=[.fz (.int m),.fz (.tup (sT B)),.fz (.lst (sT (W B.length))),.ow [],.no,.no])
  (fun k ρ=>∃s4 s5,ρ=[.fz (.int m),.fz (.tup (sT B)),.fz (.lst (sT (W B.length))),.ow ((((W B.length).take k).flatMap fun w=>rowsOf B.length w (zM B.length)).map rwD),s4,s5]) ⟨.no,.no,by rw[List.take_zero];rfl⟩ (by
   rintro k w ρ hk ⟨s4,s5,rfl⟩
   have hw:=List.mem_of_getElem? hk
   have e3:(W B.length).take (k+1)=(W B.length).take k++[w]:=by rw[List.take_add_one,hk];rfl
   have rl:=R_len (n:=B.length) ((W B.length).take k)
   have tl:((W B.length).take k).length≤B.length:=by rw[List.length_take,W_len];omega
   have ml:((W B.length).take k).length*zM B.length≤16*5:=Nat.mul_le_mul (by omega) b5
   obtain⟨s5',ei⟩:=inner w (((W B.length).take k).flatMap fun w=>rowsOf B.length w (zM B.length)) s5 hw (by omega)
   rw[e3,List.flatMap_append,List.flatMap_singleton]
   refine⟨_,(sFor_ok (fR_ok (ds:=[.int ((zM B.length:Nat):Int)]) (zJ (fO_ok (ds:=[.str w]) rfl (by rw[← W_el hw];rfl)) rfl) (rng1_nat (by omega)))).trans ei,_,_,rfl⟩)
 rw[List.take_of_length_le (Nat.le_refl _)] at e
 exact zV ((zA (sDrop_ok (cA2 (a:=.int m) (b:=.tup (sT B)) rfl rfl (require_book_eq h.pcs h.isB)))).trans ((zA (zF (cA1 (a:=.tup (sT B)) rfl (words_of_eq h.l32)))).trans ((zA (sSetO_ok (d:=[]) rfl)).trans ((zA (cutX_nx ((sFor_ok (ds:=sT (W B.length)) rfl).trans e))).trans ((sIce_ok rfl).trans (yE rfl))))))
def dist (a b:List Nat):Nat:=((List.range a.length).filter fun i=>decide (a.getD i 0≠b.getD i 0)).length
theorem unlike_eq (h:Bb m B)(hn:B.length<17){p q:List Nat}(hp:p∈B)(hq:q∈B):xG [.int m,.tup (sT B),.str p,.str q]=.ok (.int (dist (wd B p) (wd B q):Nat)):=by
 have b5:=bits5 B.length
 have l1:=W_el (wd_mem hp)
 have l2:=W_el (wd_mem hq)
 refine zV ((zA (zF (cA3 (a:=.int m) (b:=.tup (sT B)) (c:=.str p) rfl rfl rfl (word_of_eq h.pcs h.isB hp)))).trans ((zA (zF (cA3 (a:=.int m) (b:=.tup (sT B)) (c:=.str q) rfl rfl rfl (word_of_eq h.pcs h.isB hq)))).trans (yE (fO_ok (ds:=[.lst (((List.range (wd B p).length).filter fun i=>decide ((wd B p).getD i 0≠(wd B q).getD i 0)).map fun(k:Nat)=>D.int (k:Int))]) (zJ ?_ rfl) ?_))))
 ·refine fComp_ok (ds:=(List.range (wd B p).length).map fun(k:Nat)=>D.int (k:Int)) (fR_ok (ds:=[.int ((wd B p).length:Int)]) (zJ (fO_ok (ds:=[.str (wd B p)]) rfl rfl) rfl) (rng1_nat (by omega))) (by rw[List.length_map,List.length_range];omega) (compD_of (fun i=>decide ((wd B p).getD i 0≠(wd B q).getD i 0)) (fun(k:Nat)=>D.int (k:Int)) fun i hi=>⟨?_,fun _=>rfl⟩)
  have hi':=List.mem_range.mp hi
  refine yV (zR (a:=.str [(wd B p).getD i 0]) (b:=.str [(wd B q).getD i 0]) (zR (a:=.str (wd B p)) (b:=.int (i:Int)) rfl rfl (ix_str (by omega))) (zR (a:=.str (wd B q)) (b:=.int (i:Int)) rfl rfl (ix_str (by omega))) ((eqD_str true _ _).trans ?_))
  by_cases c:(wd B p).getD i 0=(wd B q).getD i 0 <;>simp[c]
 ·show some (D.int ((((List.range (wd B p).length).filter _).map _).length:Int))=_
  rw[List.length_map];rfl
theorem W_dig:∀n<33,∀w∈W n,∀c∈w,c=48∨c=49:=by decide +kernel
theorem flat_W {ws:List (List Nat)}{b:Nat}(h:∀w∈ws,w.length=b):ws.flatten.length=b*ws.length:=by
 induction ws with
 | nil=>simp
 | cons w ws ih=>rw[List.flatten_cons,List.length_append,ih (fun x hx=>h x (List.mem_cons_of_mem _ hx)),h w List.mem_cons_self,List.length_cons,Nat.mul_succ];omega
theorem other_if {fs fp:Rho→Rs D}{ρ:Rho}{l:List Nat}{k:Nat}(h:k<l.length)(e1:fs ρ=.ok (.str l))(e2:fp ρ=.ok (.int (k:Int))):fIf (bT (f2 (eqD false) (f2 ixD fs fp) (fC (.str [48])))) (fC (.str [49])) (fC (.str [48])) ρ=.ok (.str [oth (l.getD k 0)]):=by
 have ei:f2 ixD fs fp ρ=.ok (.str [l.getD k 0]):=zR e1 e2 (ix_str h)
 have et:bT (f2 (eqD false) (f2 ixD fs fp) (fC (.str [48]))) ρ=.ok (decide ([l.getD k 0]=[48])):=yV (zR (b:=.str [48]) ei rfl (eqD_str false _ _))
 unfold oth
 by_cases c:l.getD k 0=48
 ·rw[if_pos c]
  exact fIf_t (by rw[et,c];rfl) rfl
 ·rw[if_neg c]
  exact fIf_f (by rw[et,decide_eq_false (fun z=>c (by injection z))]) rfl
theorem flip_mid {A w R:List Nat}{j:Nat}(h:j<w.length):flip (A++(w++R)) (A.length+j)=A++(flip w j++R):=by
 unfold flip
 have e1:(A++(w++R)).take (A.length+j)=A++w.take j:=by
  rw[List.take_length_add_append,List.take_append_of_le_length (by omega)]
 have e2:(A++(w++R)).drop (A.length+j+1)=w.drop (j+1)++R:=by
  rw[Nat.add_assoc,List.drop_length_add_append,List.drop_append_of_le_length (by omega)]
 have e3:(A++(w++R)).getD (A.length+j) 0=w.getD j 0:=by
  rw[List.getD_eq_getElem?_getD,List.getD_eq_getElem?_getD,List.getElem?_append_right (by omega),Nat.add_sub_cancel_left,List.getElem?_append_left h]
 rw[e1,e2,e3]
 simp only[List.append_assoc]
theorem split3 {α:Type}{l:List α}{k:Nat}(h:k<l.length):∃A c R,l=A++c::R∧k=A.length :=
 ⟨l.take k,l[k],l.drop (k+1),by rw[← List.drop_eq_getElem_cons h,List.take_append_drop],by rw[List.length_take];omega⟩
theorem flip_flip {l:List Nat}{k:Nat}(h:k<l.length)(d:∀c∈l,c=48∨c=49):flip (flip l k) k=l:=by
 obtain⟨A,c,R,rfl,rfl⟩:=split3 h
 have f:∀c,flip (A++c::R) A.length=A++oth c::R:=fun c=>flip_mid (j:=0) (w:=[c]) Nat.one_pos
 rw[f,f]
 have:oth (oth c)=c:=by rcases d c (by simp) with rfl|rfl <;>rfl
 rw[this]
theorem dist_flip:∀n<17,∀w∈W n,∀j<zM n,dist (flip w j) w=1:=by decide +kernel
theorem R_four:∀n∈[2,4,8,16],R n=[]:=by decide +kernel
theorem R_set:∀n<17,((R n).map rwD).all isSI=true∧tpNd ((R n).map rwD)=true:=by decide +kernel
theorem mem_R {n:Nat}{w:List Nat}{j:Nat}(hw:w∈W n)(hj:j<zM n):(w,j)∈R n↔flip w j∉W n:=by
 unfold R
 simp[hw,hj]
theorem in_R (x:List Nat×Nat):∀xs:List (List Nat×Nat),D.pls (xs.map rwD)=true∧((D.pys (xs.map rwD)).any fun z=>PyData.eqv z (rwD x).py)=decide (x∈xs)
 | []=>⟨rfl,rfl⟩
 | y::xs=>by
  refine⟨by show((rwD y).pl&&D.pls (xs.map rwD))=true;rw[(in_R x xs).1];rfl,?_⟩
  show(PyData.eqv (rwD y).py (rwD x).py || (D.pys (xs.map rwD)).any fun z=>PyData.eqv z (rwD x).py)=_
  rw[(in_R x xs).2]
  have e:PyData.eqv (rwD y).py (rwD x).py=decide (x=y):=by
   show(PyData.eqv (.str (T y.1)) (.str (T x.1))&&(((y.2:Int) == (x.2:Int))&&true))=_
   rw[eqv_str,Bool.eq_iff_iff,decide_eq_true_eq,Bool.and_true,Bool.and_eq_true,beq_iff_eq,decide_eq_true_eq]
   exact⟨fun h=>Prod.ext h.1.symm (by omega),fun h=>by rw[h];exact⟨rfl,rfl⟩⟩
  rw[e,Bool.eq_iff_iff,Bool.or_eq_true,decide_eq_true_eq,decide_eq_true_eq,decide_eq_true_eq,List.mem_cons]
theorem inDD_R (x:List Nat×Nat)(xs:List (List Nat×Nat)):inDD false (rwD x) (.lst (xs.map rwD))=some (.bl (decide (x∈xs))):=by
 obtain⟨e1,e2⟩:=in_R x xs
 refine(if_pos ⟨rfl,e1,by simp[rwD,D.py,D.pys,PyData.depth,PyData.depthAll]⟩).trans ?_
 rw[e2];rfl
theorem filt_le (P Q S:Nat→Bool)(h:∀i,P i=true→Q i=true∨S i=true):∀L:List Nat,(L.filter P).length≤(L.filter Q).length+(L.filter S).length
 | []=>Nat.le_refl _
 | x::L=>by
  have ih:=filt_le P Q S h L
  have hx:=h x
  rw[List.filter_cons,List.filter_cons,List.filter_cons]
  revert hx
  cases P x <;>cases Q x <;>cases S x <;>intro hx <;>first|(simp at hx;done)|(simp only[↓reduceIte,List.length_cons,Bool.false_eq_true];omega)
theorem dist_tri {a b c:List Nat}(e:c.length=a.length):dist a b≤dist a c+dist c b:=by
 unfold dist
 rw[e]
 refine filt_le _ _ _ (fun i hi=>?_) _
 rw[decide_eq_true_eq] at hi
 rw[decide_eq_true_eq,decide_eq_true_eq]
 by_cases z:a.getD i 0=c.getD i 0
 ·exact .inr fun y=>hi (z.trans y)
 ·exact .inl z
theorem dist_comm {a b:List Nat}(e:a.length=b.length):dist a b=dist b a:=by
 unfold dist
 rw[e]
 congr 2
 funext i
 rw[decide_eq_decide]
 exact⟨Ne.symm,Ne.symm⟩
theorem dist_zero {a b:List Nat}(e:a.length=b.length):dist a b=0↔a=b:=by
 unfold dist
 rw[List.length_eq_zero_iff,List.filter_eq_nil_iff]
 refine⟨fun h=>List.ext_getElem e fun i h1 h2=>?_,fun h i _=>by rw[h];simp⟩
 have:=h i (List.mem_range.mpr h1)
 simp[h1,h2] at this
 exact this
theorem pc_wd (h:Bb m B){p:List Nat}(hp:p∈B):pc B (wd B p)=p:=by
 have hi:=List.idxOf_lt_length_of_mem hp
 unfold pc
 rw[wd_idx h.l32 hp,List.getD_eq_getElem?_getD,List.getElem?_eq_getElem hi]
 exact List.getElem_idxOf hi
theorem pcs_wd (h:Bb m B){cs:List (List Nat)}(hc:∀p∈cs,p∈B):(cs.map (wd B)).map (pc B)=cs:=by
 rw[List.map_map]
 exact(List.map_congr_left fun p hp=>pc_wd h (hc p hp)).trans (List.map_id cs)
theorem flat31:∀{cs:List (List Nat)},(∀p∈cs,p.length≤31)→cs.flatten.length≤31*cs.length
 | [],_=>Nat.le_refl _
 | p::cs,h=>by
  have:=flat31 fun q hq=>h q (List.mem_cons_of_mem p hq)
  have:=h p List.mem_cons_self
  rw[List.flatten_cons,List.length_append,List.length_cons]
  omega
theorem ix_last (h:0<B.length):ixD (.tup (sT B)) (.int (-1))=some (.str (B.getD (B.length - 1) [])):=by
 show atI (sT B) (-1)=_
 unfold atI ixN
 rw[if_neg (by decide),if_pos (by rw[yK];omega)]
 show(sT B)[(-1+((sT B).length:Int)).toNat]? = _
 rw[yK,show(-1+(B.length:Int)).toNat=B.length - 1 by omega,sT,List.getElem?_map,List.getD_eq_getElem?_getD,List.getElem?_eq_getElem (by omega)]
 rfl
theorem lflip_eq {b c e d:D}{r:Rs D}(h:fn_flipped [.int m,b,c,e]=r)(hr:r=.ok d∨r=.ex 4∧d=.non):xK [.int m,b,c,e]=.ok d:=by
 refine zV ?_
 show sTryN [4] _ _ [.fz (.int m),.fz b,.fz c,.fz e]=_
 unfold sTryN
 have eA:fA (ari 4 fn_flipped) hq19 [.fz (.int m),.fz b,.fz c,.fz e]=r:=fA_ok (ds:=[.int (m:Int),b,c,e]) (cutA_ok rfl) rfl h
 rw[if_pos (show([_,_,_,_]:Rho).all _=true from rfl),eA]
 rcases hr with rfl|⟨rfl,rfl⟩ <;>rfl
theorem cut_mid (A q C:List Nat):cutL (A++(q++C)) (some (A.length:Int)) (some ((A.length+q.length:Nat):Int))=q:=by
 unfold cutL
 rw[HT.sIx_nat,HT.sIx_nat,List.length_append,List.length_append,Nat.min_eq_left (by omega),Nat.min_eq_left (by omega),List.drop_left,Nat.add_sub_cancel_left,List.take_left]
theorem lenS {f:Rho→Rs D}{ρ:Rho}{l:List Nat}(e:f ρ=.ok (.str l)):fO lenD (zj f zE) ρ=.ok (.int (l.length:Int)):=fO_ok (ds:=[.str l]) (zJ e rfl) rfl
theorem is_one_eq (h:Bb m B)(hn:B.length<17){ca cr:List (List Nat)}{p q:List Nat}(hca:∀p∈ca,p∈B)(hcr:∀p∈cr,p∈B)(l1:ca.length≤5)(l2:cr.length≤5)(hp:p∈B)(hq:q∈B)(hd:dist (wd B q) (wd B p)=1) :
  fn__law_is_one [.int m,.tup (sT B),.lst (sT (ca++p::cr)),.int (ca.length:Int),.str (ca.flatten++(q++cr.flatten))]=.ok (.bl true):=by
 have f1:=flat31 fun p hp=>h.l8 p (hca p hp)
 have f2':=flat31 fun p hp=>h.l8 p (hcr p hp)
 have eu:=unlike_eq h hn hq hp
 rw[hd] at eu
 refine zV ?_
 let ρ (x y z:Sl):Rho:=[.fz (.int m),.fz (.tup (sT B)),.fz (.lst (sT (ca++p::cr))),.fz (.int (ca.length:Int)),.fz (.str (ca.flatten++(q++cr.flatten))),x,y,z]
 refine(zA (ρ':=ρ (.fz (.str cr.flatten)) .no .no) (zF (joinS (fSl_ok (a:=.lst (sT (ca++p::cr))) (l:=some ((ca.length+1:Nat):Int)) (h:=none) rfl rfl rfl ?_) (by omega)))).trans ?_
 ·show some (D.lst (cutL (sT (ca++p::cr)) _ none))=_
  rw[cut_from,sT,← List.map_drop,List.drop_length_add_append];rfl
 refine(zA (ρ':=ρ (.fz (.str cr.flatten)) (.fz (.str ca.flatten)) .no) (zF (joinS (fSl_ok (a:=.lst (sT (ca++p::cr))) (l:=none) (h:=some (ca.length:Int)) rfl rfl rfl ?_) (by omega)))).trans ?_
 ·show some (D.lst (cutL (sT (ca++p::cr)) none _))=_
  rw[cut_none,sT,← List.map_take,List.take_left];rfl
 refine(zA (ρ':=ρ (.fz (.str cr.flatten)) (.fz (.str ca.flatten)) (.fz (.str q))) (zF (fSl_ok (a:=.str (ca.flatten++(q++cr.flatten))) (l:=some (ca.flatten.length:Int)) (h:=some ((ca.flatten.length+q.length:Nat):Int)) rfl rfl ?_ (congrArg (fun z=>some (D.str z)) (cut_mid _ _ _))))).trans ?_
 ·unfold yq
  rw[subI_ok (lenS (l:=ca.flatten++(q++cr.flatten)) rfl) (lenS (l:=cr.flatten) rfl),List.length_append,List.length_append]
  show Rs.ok (some _)=_
  congr 2
  omega
 refine(zA (ifF (bOr_ff (bNot_ok (b:=true) (yV (fM_ok (a:=.str (ca.flatten++(q++cr.flatten))) (b:=.str ca.flatten) rfl rfl rfl ?_))) (bOr_ff (bNot_ok (b:=true) (yV (fM_ok (a:=.str (ca.flatten++(q++cr.flatten))) (b:=.str cr.flatten) rfl rfl rfl ?_))) (yV (zR (a:=.str q) (b:=.tup (sT B)) rfl rfl ((inQ_sT true q B).trans (by rw[decide_eq_true hq];rfl)))))))).trans ?_
 ·show some (D.bl (List.isPrefixOf _ _))=_
  rw[List.isPrefixOf_iff_prefix.mpr (List.prefix_append _ _)]
 ·show some (D.bl (List.isSuffixOf _ _))=_
  rw[List.isSuffixOf_iff_suffix.mpr (by rw[← List.append_assoc];exact List.suffix_append _ _)]
 refine yE (zR (a:=.int 1) (b:=.int 1) (cA4 (a:=.int m) (b:=.tup (sT B)) (c:=.str q) (d:=.str p) rfl rfl rfl (zR (a:=.lst (sT (ca++p::cr))) (b:=.int (ca.length:Int)) rfl rfl ?_) eu) rfl rfl)
 refine(at_sT (by simp)).trans ?_
 rw[List.getD_eq_getElem?_getD,List.getElem?_append_right (Nat.le_refl _),Nat.sub_self];rfl
abbrev rhoL (ns:List Int)(m:Nat)(B cs:List (List Nat))(s7 s8 s9 s10 s11 s12 s13 s14:Sl):Rho:=[.fz (scD ns),.fz (.int m),.fz (.tup (sT B)),.fz (.int ((zM B.length:Nat):Int)),.fz (.lst ((R B.length).map rwD)),.fz (.lst (sT cs)),.fz (.str (cs.map (wd B)).flatten),s7,s8,s9,s10,s11,s12,s13,s14]
abbrev gQ:Rho→Out:=sIf (bT (f1 (isN true) (fNm 10)))
  (zQ (sIf hq12
  hq1
  sNx)
  (zQ (yM 11 (f2 addS hq0 hq13))
  (zQ (sIf hq15
  hq1
  sNx)
  (sIf hq7
  hq1
  sNx))))
  sNx
abbrev gP:Rho→Out:=zQ (yM 8 (f2 fdivI (fNm 7) (fNm 3)))
  (zQ (yM 9 (fA (ari 3 yF) hq9))
  (zQ hq14
  (zQ (sIf hq8
  hq1
  sNx)
  gQ)))
theorem places_loop (ns:List Int)(h:Bb m B)(h2:2≤B.length)(n17:B.length<17){cs:List (List Nat)}(hc:∀p∈cs,p∈B)(hl:cs.length≤5):∃s7 s8 s9 s10 s11,forD 7 gP ((List.range (cs.map (wd B)).flatten.length).map fun(k:Nat)=>D.int (k:Int)) (rhoL ns m B cs .no .no .no .no .no .no .no .no)=.nx (rhoL ns m B cs s7 s8 s9 s10 s11 .no .no .no):=by
 have b5:=bits5 B.length
 have b1:=bits1 h2
 have hw:∀{ds:List (List Nat)},(∀p∈ds,p∈B)→∀w∈ds.map (wd B),w∈W B.length:=fun hd w hw=>by
  obtain⟨p,hp,rfl⟩:=List.mem_map.mp hw
  exact wd_mem (hd p hp)
 have fl:=flat_W (fun w hw'=>W_el (hw hc w hw'))
 rw[List.length_map] at fl
 have fm:zM B.length*cs.length≤5*5:=Nat.mul_le_mul b5 hl
 obtain ⟨ρ',e,s7,s8,s9,s10,s11,rfl⟩:=forD_inv (i:=7) (g:=gP) (l:=List.range (cs.map (wd B)).flatten.length) (enc:=fun(k:Nat)=>D.int (k:Int)) (ρ:=rhoL ns m B cs .no .no .no .no .no .no .no .no)
  (fun _ ρ=>∃s7 s8 s9 s10 s11,ρ=rhoL ns m B cs s7 s8 s9 s10 s11 .no .no .no) ⟨.no,.no,.no,.no,.no,rfl⟩ (by
   rintro i k ρ hk' ⟨z7,z8,z9,z10,z11,rfl⟩
   obtain⟨hi,ek⟩:=List.getElem?_eq_some_iff.mp hk'
   rw[List.getElem_range] at ek
   subst ek
   rw[List.length_range] at hi
   have hat:i / zM B.length<cs.length:=Nat.div_lt_of_lt_mul (by omega)
   have hj:=Nat.mod_lt i (show 0<zM B.length by omega)
   have hdm:=Nat.div_add_mod i (zM B.length)
   obtain⟨ca,p,cr,ecs,eat⟩:=split3 hat
   generalize i % zM B.length=j at hj hdm
   have ha:∀p∈ca,p∈B:=fun q hq=>hc q (by rw[ecs];simp[hq])
   have hr:∀p∈cr,p∈B:=fun q hq=>hc q (by rw[ecs];simp[hq])
   have hp:p∈B:=hc p (by rw[ecs];simp)
   have la:ca.length+(cr.length+1)=cs.length:=by rw[ecs,List.length_append,List.length_cons]
   have hwp:=wd_mem hp
   have wl:=W_el hwp
   have e1:(cs.map (wd B)).flatten=(ca.map (wd B)).flatten++(wd B p++(cr.map (wd B)).flatten):=by rw[ecs];simp
   have lA:(ca.map (wd B)).flatten.length=zM B.length*ca.length:=by rw[flat_W (fun w hw'=>W_el (hw ha w hw')),List.length_map]
   have ei:i=(ca.map (wd B)).flatten.length+j:=by rw[lA,← eat];exact hdm.symm
   have ef:flip (cs.map (wd B)).flatten i=(ca.map (wd B)++flip (wd B p) j::cr.map (wd B)).flatten:=by
    rw[e1,List.flatten_append,List.flatten_cons,← flip_mid (by omega),← ei]
   have es:∀{z8 z9 z10 z11:Sl},f2 addS hq0 hq13 (rhoL ns m B cs (.fz (.int (i:Int))) z8 z9 z10 z11 .no .no .no)=.ok (.str (flip (cs.map (wd B)).flatten i)):=spoil_ok hi (by omega) rfl rfl (other_if hi rfl rfl)
   have ul:∀w∈ca.map (wd B)++flip (wd B p) j::cr.map (wd B),w.length=zM B.length:=fun w hw'=>by
    rcases List.mem_append.mp hw' with z|z
    ·exact W_el (hw ha w z)
    ·rcases List.mem_cons.mp z with rfl|z
     ·rw[flip_len (by omega),wl]
     ·exact W_el (hw hr w z)
   have un:(ca.map (wd B)++flip (wd B p) j::cr.map (wd B)).length=cs.length:=by rw[List.length_append,List.length_cons,List.length_map,List.length_map];exact la
   have hb:=back_any h h2 ul (by omega)
   rw[← ef] at hb
   have emod:(i:Int) % ((zM B.length:Nat):Int)=(j:Int):=by
    rw[← Int.natCast_emod]
    congr 1
    rw[← hdm,Nat.mul_add_mod,Nat.mod_eq_of_lt hj]
   have ediv:(i:Int) / ((zM B.length:Nat):Int)=(ca.length:Int):=by rw[← eat];exact(Int.natCast_ediv _ _).symm
   have ein:∀{z8 z10:Sl},f2 (inDD false) hq21 (fNm 4) (rhoL ns m B cs (.fz (.int (i:Int))) z8 (.fz (.str (wd B p))) z10 z11 .no .no .no)=.ok (.bl (decide (flip (wd B p) j∉W B.length))):=by
    intro z8 z10
    refine zR (a:=rwD (wd B p,j)) (b:=.lst ((R B.length).map rwD)) (fO_ok (ds:=[.str (wd B p),.int (j:Int)]) (zJ rfl (zJ ((modI_ok (i:=(i:Int)) (j:=((zM B.length:Nat):Int)) rfl rfl (by omega)).trans (by rw[emod])) rfl)) rfl) rfl ((inDD_R _ _).trans ?_)
    rw[decide_eq_decide.mpr (mem_R hwp hj)]
   have s8e:∀{z8:Sl},f2 fdivI (fNm 7) (fNm 3) (rhoL ns m B cs (.fz (.int (i:Int))) z8 z9 z10 z11 .no .no .no)=.ok (.int (ca.length:Int)):=fun {z8}=>(fdivI_ok (i:=(i:Int)) (j:=((zM B.length:Nat):Int)) rfl rfl (by omega) (sm_of (by omega))).trans (by rw[ediv])
   have s9e:fA (ari 3 yF) hq9 (rhoL ns m B cs (.fz (.int (i:Int))) (.fz (.int (ca.length:Int))) z9 z10 z11 .no .no .no)=.ok (.str (wd B p)):=by
    refine cA3 (a:=.int m) (b:=.tup (sT B)) (c:=.str p) rfl rfl (zR (a:=.lst (sT cs)) (b:=.int (ca.length:Int)) rfl rfl ((at_sT (by omega)).trans ?_)) (word_of_eq h.pcs h.isB hp)
    rw[ecs,List.getD_eq_getElem?_getD,List.getElem?_append_right (Nat.le_refl _),Nat.sub_self];rfl
   by_cases c:flip (wd B p) j∈W B.length
   ·have all:∀w∈ca.map (wd B)++flip (wd B p) j::cr.map (wd B),w∈W B.length:=fun w hw'=>by
     rcases List.mem_append.mp hw' with z|z
     ·exact hw ha w z
     ·rcases List.mem_cons.mp z with rfl|z
      ·exact c
      ·exact hw hr w z
    rcases hb with⟨_,eb⟩|⟨⟨w,hw',hn⟩,_⟩
    ·have et:((ca.map (wd B)++flip (wd B p) j::cr.map (wd B)).map (pc B)).flatten=ca.flatten++(pc B (flip (wd B p) j)++cr.flatten):=by
      rw[List.map_append,List.map_cons,pcs_wd h ha,pcs_wd h hr,List.flatten_append,List.flatten_cons]
     rw[et] at eb
     have ft:=lflip_eq (flipped_ok h h2 (hw hc) (by rw[List.length_map];omega) hi (.inl ⟨_,rfl⟩) eb) (.inl rfl)
     have st:=My.strict h.bk.srt h.bk.nd
     have e1':=is_one_eq h n17 ha hr (by omega) (by omega) hp (pc_mem c) (by rw[wd_pc st c];exact dist_flip _ n17 _ hwp _ hj)
     rw[← ecs] at e1'
     have dg:∀x∈(cs.map (wd B)).flatten,x=48∨x=49:=fun x hx=>by
      obtain⟨w,hw',hx⟩:=List.mem_flatten.mp hx
      exact W_dig _ (by omega) w (hw hc w hw') x hx
     have eb2:yX [.int m,.tup (sT B),.str (flip (flip (cs.map (wd B)).flatten i) i)]=.ok (.str cs.flatten):=by
      rw[flip_flip hi dg]
      rcases back_any h h2 (fun w hw'=>W_el (hw hc w hw')) (by rw[List.length_map];omega) with⟨_,z⟩|⟨⟨w,hw',hn⟩,_⟩
      ·rw[pcs_wd h hc] at z;exact z
      ·exact absurd (hw hc w hw') hn
     rw[ef] at eb2
     have ft2:=lflip_eq (flipped_ok h h2 all (by omega) (by rw[← ef,flip_len hi];exact hi) (.inl ⟨_,rfl⟩) eb2) (.inl rfl)
     rw[← ef] at ft2
     have f31:=flat31 fun p hp=>h.l8 p (hc p hp)
     have eq:gQ (rhoL ns m B cs (.fz (.int (i:Int))) (.fz (.int (ca.length:Int))) (.fz (.str (wd B p))) (.fz (.str (ca.flatten++(pc B (flip (wd B p) j)++cr.flatten)))) z11 .no .no .no)=.nx (rhoL ns m B cs (.fz (.int (i:Int))) (.fz (.int (ca.length:Int))) (.fz (.str (wd B p))) (.fz (.str (ca.flatten++(pc B (flip (wd B p) j)++cr.flatten)))) (.fz (.str (flip (cs.map (wd B)).flatten i))) .no .no .no) :=
      (sIf_t (yV rfl)).trans ((zA (ifF (bNot_ok (b:=true) (yV (cA5 (a:=.int m) (b:=.tup (sT B)) (c:=.lst (sT cs)) (d:=.int (ca.length:Int)) (k:=.str (ca.flatten++(pc B (flip (wd B p) j)++cr.flatten))) rfl rfl rfl rfl rfl e1'))))).trans ((zA (zF es)).trans ((zA (ifF (yV (zR (cA3 (a:=.int m) (b:=.tup (sT B)) (c:=.str (flip (cs.map (wd B)).flatten i)) rfl rfl rfl eb) rfl (strT _))))).trans (ifF (yV (zR (cA4 (a:=.int m) (b:=.tup (sT B)) (c:=.str (flip (cs.map (wd B)).flatten i)) (d:=.int (i:Int)) rfl rfl rfl rfl ft2) (joinS (L:=cs) rfl (by omega)) (strT _)))))))
     exact⟨_,(zA (zF s8e)).trans ((zA (zF s9e)).trans ((zA (zF (cA4 (a:=.int m) (b:=.tup (sT B)) (c:=.str (cs.map (wd B)).flatten) (d:=.int (i:Int)) rfl rfl rfl rfl ft))).trans ((zA (ifF (yV (zR (a:=.bl false) (b:=.bl false) rfl (ein.trans (by rw[decide_eq_false (fun z=>z c)])) rfl)))).trans eq))),_,_,_,_,_,rfl⟩
    ·exact absurd (all w hw') hn
   ·rcases hb with⟨all,_⟩|⟨_,eb⟩
    ·exact absurd (all _ (by simp)) c
    ·have ft:=lflip_eq (d:=.non) (flipped_ok h h2 (hw hc) (by rw[List.length_map];omega) hi (.inr ⟨_,rfl⟩) eb) (.inr ⟨rfl,rfl⟩)
     exact⟨_,(zA (zF s8e)).trans ((zA (zF s9e)).trans ((zA (zF (cA4 (a:=.int m) (b:=.tup (sT B)) (c:=.str (cs.map (wd B)).flatten) (d:=.int (i:Int)) rfl rfl rfl rfl ft))).trans ((zA (ifF (yV (zR (a:=.bl true) (b:=.bl true) rfl (ein.trans (by rw[decide_eq_true c])) rfl)))).trans ((sIf_f (yV rfl)).trans rfl)))),_,_,_,_,_,rfl⟩)
 exact⟨s7,s8,s9,s10,s11,e⟩
abbrev gU:Rho→Out:=zQ hq16
  (zQ (sIf hq3
  hq1
  sNx)
  (sIf hq2
  hq1
  sNx))
theorem wd_inj (h:Bb m B){p q:List Nat}(hp:p∈B)(hq:q∈B):wd B p=wd B q↔p=q:=⟨fun e=>by rw[← pc_wd h hp,e,pc_wd h hq],fun e=>by rw[e]⟩
theorem unlikes (ns:List Int)(h:Bb m B)(n17:B.length<17){cs:List (List Nat)}(hc:∀p∈cs,p∈B)(h1:1≤cs.length)(s7 s8 s9 s10 s11:Sl):∃s12 s13 s14,forD 12 (sFor 13 (fI lsD (fNm 5)) gU) (sT cs) (rhoL ns m B cs s7 s8 s9 s10 s11 .no .no .no)=.nx (rhoL ns m B cs s7 s8 s9 s10 s11 s12 s13 s14):=by
 have h0:cs.getD 0 []∈B:=hc _ (getD_mem h1)
 have wl:∀{p q:List Nat},p∈B→q∈B→(wd B p).length=(wd B q).length:=fun hp hq=>(W_el (wd_mem hp)).trans (W_el (wd_mem hq)).symm
 have inner:∀(p:List Nat),p∈B→∀(s13 s14:Sl),∃s13' s14',forD 13 gU (sT cs) (rhoL ns m B cs s7 s8 s9 s10 s11 (.fz (.str p)) s13 s14)=.nx (rhoL ns m B cs s7 s8 s9 s10 s11 (.fz (.str p)) s13' s14'):=by
  intro p hp s13 s14
  obtain ⟨ρ',e,a,b,rfl⟩:=forD_inv (i:=13) (g:=gU) (l:=cs) (enc:=D.str) (ρ:=rhoL ns m B cs s7 s8 s9 s10 s11 (.fz (.str p)) s13 s14)
   (fun _ ρ=>∃a b,ρ=rhoL ns m B cs s7 s8 s9 s10 s11 (.fz (.str p)) a b) ⟨_,_,rfl⟩ (by
    rintro k q ρ hk' ⟨a,b,rfl⟩
    have hq:=hc q (List.mem_of_getElem? hk')
    have u1:=unlike_eq h n17 hp hq
    have u2:=unlike_eq h n17 hq hp
    have u3:=unlike_eq h n17 hp h0
    have u4:=unlike_eq h n17 h0 hq
    rw[dist_comm (wl hq hp)] at u2
    have tri:=dist_tri (a:=wd B p) (b:=wd B q) (wl h0 hp)
    have z:=dist_zero (wl hp hq)
    rw[wd_inj h hp hq] at z
    generalize dist (wd B p) (wd B q)=x at u1 u2 tri z
    have e0:∀(a b:Sl),f2 ixD (fNm 5) (fC (.int 0)) (rhoL ns m B cs s7 s8 s9 s10 s11 (.fz (.str p)) a b)=.ok (.str (cs.getD 0 [])):=fun a b=>zR (a:=.lst (sT cs)) (b:=.int ((0:Nat):Int)) rfl rfl (at_sT h1)
    have c4:∀{f g:Rho→Rs D}{ρ:Rho}{p q:List Nat}{d:D},fNm 1 ρ=.ok (.int m)→fNm 2 ρ=.ok (.tup (sT B))→f ρ=.ok (.str p)→g ρ=.ok (.str q)→xG [.int m,.tup (sT B),.str p,.str q]=.ok d→fA (ari 4 xG) (zj (fNm 1) (zj (fNm 2) (zj f (zj g zE)))) ρ=.ok d:=fun h1 h2 h3 h4 h5=>cA4 h1 h2 h3 h4 h5
    refine⟨_,(zA (zF (c4 rfl rfl rfl rfl u1))).trans ((zA (ifF (bOr_ff (yV (zR (a:=.int (x:Int)) rfl (c4 rfl rfl rfl rfl u2) ((eqD_int true _ _).trans (by simp)))) (yV (zR (a:=.bl (decide (x=0))) (b:=.bl (decide (x=0))) (zR (a:=.int (x:Int)) (b:=.int 0) rfl rfl ((eqD_int false _ _).trans ?_)) (zR (a:=.str p) (b:=.str q) rfl rfl ((eqD_str false _ _).trans ?_)) ?_))))).trans (ifF (yV (zR (a:=.int (x:Int)) rfl (addI_ok (c4 rfl rfl rfl (e0 _ _) u3) (c4 rfl rfl (e0 _ _) rfl u4)) ?_)))),_,_,rfl⟩
    ·show some (D.bl (decide ((x:Int)=0)))=_
     rw[decide_eq_decide.mpr (show(x:Int)=0↔x=0 by omega)]
    ·show some (D.bl (decide (p=q)))=_
     rw[decide_eq_decide.mpr z.symm]
    ·cases decide (x=0) <;>rfl
    ·show some (D.bl (decide (_<_)))=_
     rw[decide_eq_false (by omega)])
  exact⟨a,b,e⟩
 obtain ⟨ρ',e,a,b,c,rfl⟩:=forD_inv (i:=12) (g:=sFor 13 (fI lsD (fNm 5)) gU) (l:=cs) (enc:=D.str) (ρ:=rhoL ns m B cs s7 s8 s9 s10 s11 .no .no .no)
  (fun _ ρ=>∃a b c,ρ=rhoL ns m B cs s7 s8 s9 s10 s11 a b c) ⟨_,_,_,rfl⟩ (by
   rintro k p ρ hk' ⟨a,b,c,rfl⟩
   obtain⟨b',c',e⟩:=inner p (hc p (List.mem_of_getElem? hk')) b c
   exact⟨_,(sFor_ok (ds:=sT cs) rfl).trans e,_,_,_,rfl⟩)
 exact⟨a,b,c,e⟩
theorem law_true (ns:List Int)(hn:ns.length≤63):fn_law [.lst (ns.map .int)]=.ok (.bl true):=by
 have hd:=drawn_range ns 0 (m:=3) (by decide)
 obtain⟨r,hr⟩:=Int.eq_ofNat_of_zero_le hd.1
 rw[hr] at hd
 have m2:2≤2+r:=by omega
 have m4:2+r≤4:=by omega
 have hmm:(2:Int)+(r:Int)=((2+r:Nat):Int):=by omega
 generalize hm:2+r=m at m2 m4 hmm
 have hd8:=drawn_range ns 1 (m:=5) (by decide)
 obtain⟨t1,h1⟩:=Int.eq_ofNat_of_zero_le hd8.1
 rw[h1] at hd8
 have e1:=book_eq ns hn 20 m2 m4 t1 (by omega) (by decide)
 have hk:=Kc.of_gr (n:=5) m2 m4 (bkF_gr ns 20 m2 m4 t1) (by omega)
 generalize bkF ns 20 m t1=B at e1 hk
 have hl:=hk.len (by decide)
 have h:=hk.bb (by decide)
 obtain⟨t,_,eg1,eg2⟩:=hk.bk.grAt
 have h2:2≤B.length:=by omega
 have b5:=bits5 B.length
 have n0:0<(B.length:Int):=by omega
 have hd2:=drawn_range ns 2 (m:=5) (by decide)
 obtain⟨q,hq⟩:=Int.eq_ofNat_of_zero_le hd2.1
 rw[hq] at hd2
 let num:Nat→Nat:=fun k=>(drawnF ns (40+(k:Int)) (B.length:Int)).toNat
 have hnum:∀k:Nat,num k<B.length∧drawnF ns (40+(k:Int)) (B.length:Int)=(num k:Int):=fun k=>by
  have r:=drawn_range ns (40+(k:Int)) n0
  have:((drawnF ns (40+(k:Int)) (B.length:Int)).toNat:Int)=drawnF ns (40+(k:Int)) (B.length:Int):=Int.toNat_of_nonneg r.1
  exact⟨by show(drawnF ns (40+(k:Int)) (B.length:Int)).toNat<B.length;omega,this.symm⟩
 obtain⟨cs,ecs⟩:∃cs:List (List Nat),cs=(List.range (1+q)).map fun k=>B.getD (num k) []:=⟨_,rfl⟩
 have hc:∀p∈cs,p∈B:=fun w hw=>by
  rw[ecs] at hw
  obtain⟨k,_,rfl⟩:=List.mem_map.mp hw
  exact getD_mem (hnum k).1
 have hcl:cs.length=1+q:=by rw[ecs,List.length_map,List.length_range]
 have hw:∀w∈cs.map (wd B),w∈W B.length:=fun w hw=>by
  obtain⟨p,hp,rfl⟩:=List.mem_map.mp hw
  exact wd_mem (hc p hp)
 have fl:=flat_W (fun w hw'=>W_el (hw w hw'))
 rw[List.length_map] at fl
 have fm:zM B.length*cs.length≤5*5:=Nat.mul_le_mul b5 (by omega)
 have n17:B.length<17:=by omega
 have hB0:B.getD 0 []∈B:=getD_mem (by omega)
 refine zV ?_
 refine(zA (ρ':=[.fz (scD ns),.fz (.int m),.no,.no,.no,.no,.no,.no,.no,.no,.no,.no,.no,.no,.no]) (zF ((addI_ok (i:=2) (j:=(r:Int)) rfl ((cA3 rfl rfl rfl (drawn_eq ns hn 0 3 (by decide) (by decide) (by decide))).trans (by rw[hr]))).trans (by rw[hmm])))).trans ?_
 refine(zA (ρ':=[.fz (scD ns),.fz (.int m),.fz (.tup (sT B)),.no,.no,.no,.no,.no,.no,.no,.no,.no,.no,.no,.no]) (zF (cA4 (a:=scD ns) (b:=.int 20) (c:=.int m) (d:=.int t1) rfl rfl rfl ((cA3 rfl rfl rfl (drawn_eq ns hn 1 5 (by decide) (by decide) (by decide))).trans (by rw[h1])) e1))).trans ?_
 refine(zA (ρ':=[.fz (scD ns),.fz (.int m),.fz (.tup (sT B)),.fz (.int ((zM B.length:Nat):Int)),.no,.no,.no,.no,.no,.no,.no,.no,.no,.no,.no]) (zF ((lenS (l:=wd B (B.getD 0 [])) (cA3 (a:=.int m) (b:=.tup (sT B)) (c:=.str (B.getD 0 [])) rfl rfl (zR (a:=.tup (sT B)) (b:=.int ((0:Nat):Int)) rfl rfl (at_sT (by omega))) (word_of_eq h.pcs h.isB hB0))).trans (by rw[W_el (wd_mem hB0)])))).trans ?_
 refine(zA (ρ':=[.fz (scD ns),.fz (.int m),.fz (.tup (sT B)),.fz (.int ((zM B.length:Nat):Int)),.fz (.lst ((R B.length).map rwD)),.no,.no,.no,.no,.no,.no,.no,.no,.no,.no]) (zF (cA2 (a:=.int m) (b:=.tup (sT B)) rfl rfl (risky_eq h n17)))).trans ?_
 obtain⟨srt,ris⟩:=R_srt n17
 obtain⟨r1,r2⟩:=R_set _ n17
 have pl:=(in_R ([],0) (R B.length)).1
 refine(zA (ifF (bOr_ff (yV (zR (a:=.lst ((R B.length).map rwD)) (b:=.lst ((R B.length).map rwD)) rfl (fLs_ok ?_) (eqD_self true pl (Nat.le_trans (dep_lst (n:=1) fun d hd=>by obtain⟨x,_,rfl⟩:=List.mem_map.mp hd;exact Nat.le_refl 1) (by decide))))) ?_))).trans ?_
 ·show lf' (setTD (.lst ((R B.length).map rwD)))=_
  dsimp only [setTD]
  rw[if_pos ⟨r1,r2,srt.2.2⟩,sortP_same srt.1 ris];rfl
 ·have ei:f2 (inD false) hq22 hq18 [.fz (scD ns),.fz (.int m),.fz (.tup (sT B)),.fz (.int ((zM B.length:Nat):Int)),.fz (.lst ((R B.length).map rwD)),.no,.no,.no,.no,.no,.no,.no,.no,.no,.no]=.ok (.bl (decide (B.length∈[2,4,8,16]))):=by
   refine zR (a:=.int (B.length:Int)) (b:=.tup [.int 2,.int 4,.int 8,.int 16]) (lenT_sT rfl) rfl ?_
   have:∀n:Nat,n<17→inD false (.int (n:Int)) (.tup [.int 2,.int 4,.int 8,.int 16])=some (.bl (decide (n∈[2,4,8,16]))):=fun n h=>match n,h with|0,_|1,_|2,_|3,_|4,_|5,_|6,_|7,_|8,_|9,_|10,_|11,_|12,_|13,_|14,_|15,_|16,_=>rfl|n+17,h=>absurd h (by omega)
   exact this _ n17
  by_cases c:B.length∈[2,4,8,16]
  ·rw[decide_eq_true c] at ei
   refine bAnd_ok (a:=true) (b:=false) (yV ei) (yV (zR (a:=.lst []) (b:=.lst []) ?_ rfl rfl))
   show Rs.ok (D.lst ((R B.length).map rwD))=_
   rw[R_four _ c];rfl
  ·rw[decide_eq_false c] at ei
   exact bAnd_f1 (yV ei)
 have ee:(sT cs)=(List.range (1+q)).map fun k=>D.str (B.getD (num k) []):=by rw[ecs,sT,List.map_map];rfl
 refine(zA (ρ':=[.fz (scD ns),.fz (.int m),.fz (.tup (sT B)),.fz (.int ((zM B.length:Nat):Int)),.fz (.lst ((R B.length).map rwD)),.fz (.lst (sT cs)),.no,.no,.no,.no,.no,.no,.no,.no,.no]) (sSetA_ok (d:=sT cs) ?_)).trans ?_
 ·rw[ee]
  refine fCp_ok (ds:=(List.range (1+q)).map fun(k:Nat)=>D.int (k:Int)) (fR_ok (ds:=[.int ((1+q:Nat):Int)]) (zJ ((addI_ok (i:=1) (j:=(q:Int)) rfl ((cA3 rfl rfl rfl (drawn_eq ns hn 2 5 (by decide) (by decide) (by decide))).trans (by rw[hq]))).trans (by rw[Int.natCast_add];rfl)) rfl) (rng1_nat (by omega))) (by rw[List.length_map,List.length_range];omega) (yQ (fun k=>D.str (B.getD (num k) [])) fun k hk'=>?_)
  have:=List.mem_range.mp hk'
  refine zR (a:=.tup (sT B)) (b:=.int (num k:Int)) rfl ((cA3 (a:=scD ns) (b:=.int (40+(k:Int))) (c:=.int (B.length:Int)) rfl (addI_ok rfl rfl) (lenT_sT rfl) (drawn_eq ns hn _ _ (by omega) (by omega) n0)).trans ?_) (at_sT (hnum k).1)
  rw[(hnum k).2]
 refine(zA (ρ':=rhoL ns m B cs .no .no .no .no .no .no .no .no) (zF (joinS ?_ (by omega)))).trans ?_
 ·have em:sT (cs.map (wd B))=cs.map fun p=>D.str (wd B p):=by rw[sT,List.map_map];rfl
  rw[em]
  exact fComp_ok (ds:=sT cs) rfl (by rw[yK];omega) (yQ (fun p=>D.str (wd B p)) fun p hp=>cA3 (a:=.int m) (b:=.tup (sT B)) (c:=.str p) rfl rfl rfl (word_of_eq h.pcs h.isB (hc p hp)))
 have f31:=flat31 fun p hp=>h.l8 p (hc p hp)
 have eb:yX [.int m,.tup (sT B),.str (cs.map (wd B)).flatten]=.ok (.str cs.flatten):=by
  rcases back_any h h2 (fun w hw'=>W_el (hw w hw')) (by rw[List.length_map];omega) with⟨_,z⟩|⟨⟨w,hw',hn⟩,_⟩
  ·rw[pcs_wd h hc] at z;exact z
  ·exact absurd (hw w hw') hn
 refine(zA (ifF (yV (zR (cA3 (a:=.int m) (b:=.tup (sT B)) (c:=.str (cs.map (wd B)).flatten) rfl rfl rfl eb) (joinS (L:=cs) rfl (by omega)) (strT _))))).trans ?_
 obtain⟨s7,s8,s9,s10,s11,eP⟩:=places_loop ns h h2 n17 hc (by omega)
 refine(zA (cutX_nx ((sFor_ok (fR_ok (ds:=[.int ((cs.map (wd B)).flatten.length:Int)]) (zJ (lenS rfl) rfl) (rng1_nat (by omega)))).trans eP))).trans ?_
 obtain⟨s12,s13,s14,eU⟩:=unlikes ns h n17 hc (by omega) s7 s8 s9 s10 s11
 refine(zA (cutX_nx ((sFor_ok (ds:=sT cs) rfl).trans eU))).trans ?_
 have hB1:B.getD (B.length - 1) []∈B:=getD_mem (by omega)
 have el:f2 ixD (fNm 2) hq24 (rhoL ns m B cs s7 s8 s9 s10 s11 s12 s13 s14)=.ok (.str (B.getD (B.length - 1) [])):=zR (a:=.tup (sT B)) (b:=.int (-1)) rfl rfl (ix_last (by omega))
 refine yE (zR (a:=.str (B.getD (B.length - 1) [])) (cA3 (a:=.int m) (b:=.tup (sT B)) (c:=.str (wd B (B.getD (B.length - 1) []))) rfl rfl (cA3 (a:=.int m) (b:=.tup (sT B)) (c:=.str (B.getD (B.length - 1) [])) rfl rfl el (word_of_eq h.pcs h.isB hB1)) (piece_of_eq h.pcs h.isB hB1)) el ((eqD_str false _ _).trans (by simp)))
end
end K43
namespace K43
open PySem L2 PyProof.Rows
open PySem.Challenge
open My
open Pg
def top (i:Nat):Stmt:=PySem.Challenge.pw_piecebooks_k43_whole_spoilt.main.body.getD i (.Pass ⟨0,0,0,0⟩)
abbrev s__law_cell:Stmt:=top 45
abbrev s__law_drawn:Stmt:=top 46
abbrev s__law_book:Stmt:=top 47
abbrev s_is_rising:Stmt:=top 16
abbrev s_is_whole:Stmt:=top 9
abbrev s_is_between:Stmt:=top 10
abbrev yH:Stmt:=top 15
abbrev s_is_text_of:Stmt:=top 11
abbrev s_are_pieces:Stmt:=top 17
abbrev s_first_pair:Stmt:=top 23
abbrev s_gone_on:Stmt:=top 20
abbrev s_is_apart:Stmt:=top 22
abbrev s_is_inner:Stmt:=top 21
abbrev yL:Stmt:=top 24
abbrev s_first_paper:Stmt:=top 25
abbrev s_is_book:Stmt:=top 26
abbrev s_require_book:Stmt:=top 18
abbrev s_bits_for:Stmt:=top 28
abbrev s_word_for:Stmt:=top 30
abbrev s_words_of:Stmt:=top 31
abbrev s_other_sign:Stmt:=top 39
abbrev s_spoilt:Stmt:=top 40
abbrev s_risky:Stmt:=top 42
abbrev s_require_piece:Stmt:=top 19
abbrev s_word_of:Stmt:=top 32
abbrev s_whole_words:Stmt:=top 34
abbrev xq:Stmt:=top 35
abbrev s_from_word:Stmt:=top 37
abbrev s_back:Stmt:=top 36
abbrev s_require_between:Stmt:=top 12
abbrev s_flipped:Stmt:=top 41
abbrev s__law_flipped:Stmt:=top 48
abbrev s_piece_of:Stmt:=top 33
abbrev s_unlike:Stmt:=top 43
abbrev s__law_is_one:Stmt:=top 49
abbrev s_law:Stmt:=top 50
structure Txt (K:PySem.W.Frag)(mg:Str→Option Value) where
 d__law_cell:Dn K mg "_law_cell" s__law_cell ["_law_script", "_law_k"]
 d__law_drawn:Dn K mg "_law_drawn" s__law_drawn ["_law_script", "_law_k", "_law_many"]
 d__law_book:Dn K mg "_law_book" s__law_book ["_law_script", "_law_at", "_law_many", "_law_turns"]
 d_is_rising:Dn K mg "is_rising" s_is_rising ["texts"]
 d_is_whole:Dn K mg "is_whole" s_is_whole ["thing"]
 d_is_between:Dn K mg "is_between" s_is_between ["thing", "least", "most"]
 d_is_number_of_letters:Dn K mg "is_number_of_letters" yH ["thing"]
 d_is_text_of:Dn K mg "is_text_of" s_is_text_of ["many", "thing"]
 d_are_pieces:Dn K mg "are_pieces" s_are_pieces ["many", "thing"]
 d_first_pair:Dn K mg "first_pair" s_first_pair ["pieces"]
 d_gone_on:Dn K mg "gone_on" s_gone_on ["many", "texts"]
 d_is_apart:Dn K mg "is_apart" s_is_apart ["pieces", "text"]
 d_is_inner:Dn K mg "is_inner" s_is_inner ["pieces", "text"]
 d_first_text_apart:Dn K mg "first_text_apart" yL ["many", "pieces"]
 d_first_paper:Dn K mg "first_paper" s_first_paper ["many", "pieces"]
 d_is_book:Dn K mg "is_book" s_is_book ["many", "thing"]
 d_require_book:Dn K mg "require_book" s_require_book ["many", "thing"]
 d_bits_for:Dn K mg "bits_for" s_bits_for ["size"]
 d_word_for:Dn K mg "word_for" s_word_for ["number", "bits"]
 d_words_of:Dn K mg "words_of" s_words_of ["book"]
 d_other_sign:Dn K mg "other_sign" s_other_sign ["sign"]
 d_spoilt:Dn K mg "spoilt" s_spoilt ["signs", "place"]
 d_risky:Dn K mg "risky" s_risky ["many", "book"]
 d_require_piece:Dn K mg "require_piece" s_require_piece ["book", "thing"]
 d_word_of:Dn K mg "word_of" s_word_of ["many", "book", "piece"]
 d_whole_words:Dn K mg "whole_words" s_whole_words ["book", "signs"]
 d_text_of_words:Dn K mg "text_of_words" xq ["book", "words"]
 d_from_word:Dn K mg "from_word" s_from_word ["many", "book", "signs", "number"]
 d_back:Dn K mg "back" s_back ["many", "book", "signs"]
 d_require_between:Dn K mg "require_between" s_require_between ["thing", "least", "most"]
 d_flipped:Dn K mg "flipped" s_flipped ["many", "book", "signs", "place"]
 d__law_flipped:Dn K mg "_law_flipped" s__law_flipped ["_law_many", "_law_book_here", "_law_signs", "_law_place"]
 d_piece_of:Dn K mg "piece_of" s_piece_of ["many", "book", "word"]
 d_unlike:Dn K mg "unlike" s_unlike ["many", "book", "one", "other"]
 d__law_is_one:Dn K mg "_law_is_one" s__law_is_one ["_law_many", "_law_book_here", "_law_pieces", "_law_at", "_law_there"]
 d_law:Dn K mg "law" s_law ["_law_script"]
 v_FEWEST_LETTERS:Value
 c_FEWEST_LETTERS:mg "FEWEST_LETTERS" = some v_FEWEST_LETTERS
 r_FEWEST_LETTERS:RelV (.int (2)) v_FEWEST_LETTERS
 v_LETTERS:Value
 c_LETTERS:mg "LETTERS" = some v_LETTERS
 r_LETTERS:RelV (.str (T [97,98,99,100])) v_LETTERS
 v_MOST_PIECES:Value
 c_MOST_PIECES:mg "MOST_PIECES" = some v_MOST_PIECES
 r_MOST_PIECES:RelV (.int (32)) v_MOST_PIECES
 n_all:mg "all" = none
 n_any:mg "any" = none
 n_bool:mg "bool" = none
 n_dict:mg "dict" = none
 n_int:mg "int" = none
 n_isinstance:mg "isinstance" = none
 n_len:mg "len" = none
 n_max:mg "max" = none
 n_range:mg "range" = none
 n_set:mg "set" = none
 n_sorted:mg "sorted" = none
 n_str:mg "str" = none
 n_tuple:mg "tuple" = none
 n_zip:mg "zip" = none
 x_NoBook:Own K mg "NoBook"
 x_NoPiece:Own K mg "NoPiece"
 x_NoSize:Own K mg "NoSize"
 x_NoWord:Own K mg "NoWord"
 e_NoWord:ExcK K x_NoWord.C
 s_NoWord:PySem.W.subIn K (.ref x_NoWord.C) (.ref x_NoWord.C)=some true
 v_NoWord:PySem.W.kitOne K (.ref x_NoWord.C) (.type "ValueError")=some true
def clOf {K:PySem.W.Frag}{mg:Str→Option Value}(t:Txt K mg):Nat→Addr
 | 1=>t.x_NoBook.C
 | 2=>t.x_NoPiece.C
 | 5=>t.x_NoSize.C
 | 4=>t.x_NoWord.C
 | _=>0
section
variable {P:Program}{w:World}{K:PySem.W.Frag}{mg:Str→Option Value}{base:Heap}
abbrev FO (P:Program)(w:World)(base:Heap)(t:Txt K mg)(k:Nat){x:Str}{st:Stmt}{ps:List Str}(d:Dn K mg x st ps)(fn:List D→Rs D)(n:Nat):Prop:=FnOk P w K mg base (CX1 P w) k d.f d.fd ps (spD K (clOf t) fn n)
abbrev N__law_cell:List Str:=["_law_script", "_law_k"]
theorem sc__law_cell:FnScope N__law_cell ["_law_script", "_law_k"] (zu s__law_cell):=fsc (by decide +kernel)
theorem ok__law_cell (t:Txt K mg):FO P w base t 1 t.d__law_cell fn__law_cell 2:=(fnDD 2 2 0 g__law_cell (clOf t) t.d__law_cell sc__law_cell fun _ _ _ _ _ _ hr =>
   (zq (xs_if (yW (op_eqD hr.units) o_eq (xv 0) (xe_lst zm) (yO _))
   (zy (zG (yp op_mulS o_mulI zH (xv 1))))
   yh)
   (zy (zG (yp op_add o_addI (xe_ix (xv 0) (yp op_mod o_modI (xv 1) (zL zY n_len rfl t.n_len boot_len (zf (xv 0) zm zb) zb)) (fun _ _=>rfl)) (yp op_mulS o_mulI zH (yp op_fdivS o_fdivI (xv 1) (zL zY n_len rfl t.n_len boot_len (zf (xv 0) zm zb) zb))))))):FO P w base t 1 t.d__law_cell (yj 2 g__law_cell) 2)
abbrev N__law_drawn:List Str:=["_law_script", "_law_k", "_law_many", "_law_cell_here"]
theorem sc__law_drawn:FnScope N__law_drawn ["_law_script", "_law_k", "_law_many"] (zu s__law_drawn):=fsc (by decide +kernel)
theorem ok__law_drawn (t:Txt K mg):FO P w base t 2 t.d__law_drawn zZ 3:=(fnDD 4 3 1 g__law_drawn (clOf t) t.d__law_drawn sc__law_drawn fun _ _ _ _ _ _ hr =>
   (zq (yd (i:=3) sc__law_drawn.nd rfl (Or.inl rfl) (yp op_mod o_modI (yp op_add o_addI (yp op_mulS o_mulI (yp op_mod o_modI (zx (ok__law_cell t) hr yw (zf (xv 0) (zf (xv 1) zm zb) zb) zb) zH) zH) (yp op_mulS o_mulI zH (yp op_add o_addI (xv 1) zH))) zH))
   (zq (yd (i:=3) sc__law_drawn.nd rfl (Or.inl rfl) (yp op_mod o_modI (yp op_add o_addI (yp op_mulS o_mulI (xv 3) (xv 3)) (yp op_fdivS o_fdivI (xv 3) zH)) zH))
   (zy (zG (yp op_mod o_modI (yp op_fdivS o_fdivI (yp op_mod o_modI (yp op_add o_addI (yp op_mulS o_mulI (xv 3) (xv 3)) (yp op_fdivS o_fdivI (xv 3) zH)) zH) zH) (xv 2)))))):FO P w base t 2 t.d__law_drawn (yj 4 g__law_drawn) 3)
abbrev N__law_book:List Str:=["_law_script", "_law_at", "_law_many", "_law_turns", "_law_found", "_law_k", "_law_piece"]
theorem sc__law_book:FnScope N__law_book ["_law_script", "_law_at", "_law_many", "_law_turns"] (zu s__law_book):=fsc (by decide +kernel)
theorem ok__law_book (t:Txt K mg):FO P w base t 3 t.d__law_book fn__law_book 4:=(fnDD 7 4 2 g__law_book (clOf t) t.d__law_book sc__law_book fun _ _ _ _ _ _ hr =>
   (zq (xs_compO (j:=4) sc__law_book.nd rfl rfl (x := "_law_k") (caps:=[]) (xr (fs:=zu s__law_book) (N:=N__law_book) rfl rfl (by decide +kernel)) rfl (xN rfl t.n_range (zf (xv 2) zm zb) rfl) ⟨fun _ _ _ _ _=>(yc (i:=0) (nd_of (N:=["_law_k"]) rfl (by decide +kernel)) rfl (Or.inl rfl)),fun _ _ _ _ _=>xts_nil,fun _ _ _ _ _=>(xe_ix (yr [97,98,99,100] (by decide +kernel)) (xv 0) (fun _ _=>rfl))⟩ rfl)
   (zq (xs_nox (xs_for (i:=5) PassesOwn.never rfl (xN rfl t.n_range (zf (xv 3) zm zb) rfl) (yc (i:=5) sc__law_book.nd rfl (Or.inl rfl))
   (zq (xs_pop (j:=6) sc__law_book.nd rfl (Or.inr rfl) (pv 4) (xe_fl (i:=4) (zx (ok__law_drawn t) hr passN (zf (xv 0) (zf (yp op_add o_addI (xv 1) (xv 5)) (zf (zL zY n_len rfl t.n_len boot_len (zf (xv 4) zm zb) zb) zm zO) star_bin) zb) zb)) ⟨zO,rfl,rfl,rfl,rfl⟩)
   (zy (xs_ice (i:=4) (xs_setO (i:=4) sc__law_book.nd rfl (Or.inl rfl) (xl_sorted rfl t.n_sorted boot_sorted (XL.xe (xl_cat (xv 4) (xe_comp (x := "_law_j") (caps:=[6]) (xr (fs:=zu s__law_book) (N:=N__law_book) rfl rfl (by decide +kernel)) rfl (xN rfl t.n_range (zf (xv 2) zm zb) rfl) ⟨fun _ _ _ _ _=>(yc (i:=0) (nd_of (N:=["_law_j", "_law_piece"]) rfl (by decide +kernel)) rfl (Or.inl rfl)),fun _ _ _ _ _=>xts_nil,fun _ _ _ _ _=>(yp op_addS o_addS (xv 1) (xe_ix (yr [97,98,99,100] (by decide +kernel)) (xv 0) (fun _ _=>rfl)))⟩))) star_bin)))))))
   (zy (xs_ice (i:=4) (zG (xe_callTy call_tuple_of n_tup rfl t.n_tuple boot_tuple (zf (xv 4) zm zb) zb)))))):FO P w base t 3 t.d__law_book (yj 7 g__law_book) 4)
abbrev N_is_rising:List Str:=["texts"]
theorem sc_is_rising:FnScope N_is_rising ["texts"] (zu s_is_rising):=fsc (by decide +kernel)
theorem ok_is_rising (t:Txt K mg):FO P w base t 1 t.d_is_rising fn_is_rising 1:=(fnDD 1 1 0 g_is_rising (clOf t) t.d_is_rising sc_is_rising fun _ _ _ _ _ _ hr =>
   (zy (zG (zL (call_all rfl) n_all rfl t.n_all boot_all (zf (XL.xe (xl_compZ (x := "one") (y := "other") (caps:=[]) (xr (fs:=zu s_is_rising) (N:=N_is_rising) rfl rfl (by decide +kernel)) rfl rfl t.n_zip (xv 0) (yS (xv 0) (xg zH) xo_none) ⟨fun _ _ _ _ _=>(pg_two (K:=K) (i:=0) (j:=1) rfl rfl (nd_of (N:=["one", "other"]) rfl (by decide +kernel)) rfl rfl (Or.inl rfl) (Or.inl rfl)),fun _ _ _ _ _=>xts_nil,fun _ _ _ _ _=>(xe_cmp op_lt_str o_ltS (xv 0) (xv 1) (yO _))⟩ rfl rfl)) zm rfl) rfl))):FO P w base t 1 t.d_is_rising (yj 1 g_is_rising) 1)
abbrev N_is_whole:List Str:=["thing"]
theorem sc_is_whole:FnScope N_is_whole ["thing"] (zu s_is_whole):=fsc (by decide +kernel)
theorem ok_is_whole (t:Txt K mg):FO P w base t 1 t.d_is_whole fn_is_whole 1:=(fnDD 1 1 0 g_is_whole (clOf t) t.d_is_whole sc_is_whole fun _ _ _ _ _ _ hr =>
   (zy (zG (xe_and (xe_isi kit_int rfl t.n_isinstance (xv 0) (pe_bltn (v:=.ty "int") rfl t.n_int boot_int rfl) zb) (xe_one (xe_not (xe_isi kit_bool rfl t.n_isinstance (xv 0) (pe_bltn (v:=.ty "bool") rfl t.n_bool boot_bool rfl) zb)))))):FO P w base t 1 t.d_is_whole (yj 1 g_is_whole) 1)
abbrev N_is_between:List Str:=["thing", "least", "most"]
theorem sc_is_between:FnScope N_is_between ["thing", "least", "most"] (zu s_is_between):=fsc (by decide +kernel)
theorem ok_is_between (t:Txt K mg):FO P w base t 2 t.d_is_between xH 3:=(fnDD 3 3 1 g_is_between (clOf t) t.d_is_between sc_is_between fun _ _ _ _ _ _ hr =>
   (zy (zG (xe_and (zx (ok_is_whole t) hr yw (zf (xv 0) zm zb) zb) (xe_one (xe_chain op_le op_le o_leI o_leI (xv 1) (xv 0) (xv 2)))))):FO P w base t 2 t.d_is_between (yj 3 g_is_between) 3)
abbrev N_is_number_of_letters:List Str:=["thing"]
theorem sc_is_number_of_letters:FnScope N_is_number_of_letters ["thing"] (zu yH):=fsc (by decide +kernel)
theorem ok_is_number_of_letters (t:Txt K mg):FO P w base t 3 t.d_is_number_of_letters ye 1:=(fnDD 1 1 2 yo (clOf t) t.d_is_number_of_letters sc_is_number_of_letters fun _ _ _ _ _ _ hr =>
   (zy (zG (zx (ok_is_between t) hr yw (zf (xv 0) (zf (xe_c (pe_glob (v:=.int (2)) rfl t.c_FEWEST_LETTERS t.r_FEWEST_LETTERS) fun _=>.int _) (zf (zL zY n_len rfl t.n_len boot_len (zf (xe_c (pe_glob (v:=.str (T [97,98,99,100])) rfl t.c_LETTERS t.r_LETTERS) fun _=>.str [97,98,99,100] (T_ok (by decide +kernel) (by decide +kernel))) zm zb) zb) zm zO) zb) zb) zb))):FO P w base t 3 t.d_is_number_of_letters (yj 1 yo) 1)
abbrev N_is_text_of:List Str:=["many", "thing", "letters"]
theorem sc_is_text_of:FnScope N_is_text_of ["many", "thing"] (zu s_is_text_of):=fsc (by decide +kernel)
theorem ok_is_text_of (t:Txt K mg):FO P w base t 1 t.d_is_text_of fn_is_text_of 2:=(fnDD 3 2 0 g_is_text_of (clOf t) t.d_is_text_of sc_is_text_of fun _ _ _ _ _ _ hr =>
   (zq (yd (i:=2) sc_is_text_of.nd rfl (Or.inr rfl) (yS (xe_c (pe_glob (v:=.str (T [97,98,99,100])) rfl t.c_LETTERS t.r_LETTERS) fun _=>.str [97,98,99,100] (T_ok (by decide +kernel) (by decide +kernel))) xo_none (xg (xv 0))))
   (zy (zG (xe_and (xe_isi kit_str rfl t.n_isinstance (xv 1) (pe_bltn (v:=.ty "str") rfl t.n_str boot_str rfl) zb) (xe_one (zL (call_all rfl) n_all rfl t.n_all boot_all (zf (xe_comp (x := "sign") (caps:=[2]) (xr (fs:=zu s_is_text_of) (N:=N_is_text_of) rfl rfl (by decide +kernel)) rfl (xi_str (xv 1)) ⟨fun _ _ _ _ _=>(yc (i:=0) (nd_of (N:=["sign", "letters"]) rfl (by decide +kernel)) rfl (Or.inl rfl)),fun _ _ _ _ _=>xts_nil,fun _ _ _ _ _=>(xe_cmp op_inC o_inC (xv 0) (xv 1) (by with_unfolding_all rfl))⟩) zm rfl) rfl)))))):FO P w base t 1 t.d_is_text_of (yj 3 g_is_text_of) 2)
abbrev N_are_pieces:List Str:=["many", "thing"]
theorem sc_are_pieces:FnScope N_are_pieces ["many", "thing"] (zu s_are_pieces):=fsc (by decide +kernel)
theorem ok_are_pieces (t:Txt K mg):FO P w base t 4 t.d_are_pieces fn_are_pieces 2:=(fnDD 2 2 3 g_are_pieces (clOf t) t.d_are_pieces sc_are_pieces fun _ _ _ _ _ _ hr =>
   (zq (xs_if (XW.xt (xw_or (xt_not (xt_val (zx (ok_is_number_of_letters t) hr yw (zf (xv 0) zm zb) zb))) (xw_or1 (xt_not (xt_val (xe_isi kit_tuple rfl t.n_isinstance (xv 1) (pe_bltn (v:=.ty "tuple") rfl t.n_tuple boot_tuple rfl) zb))))))
   (zy (zG xe_bl))
   yh)
   (zq (xs_if (xt_not (xt_chain op_le op_le o_leI o_leI zH (zL zY n_len rfl t.n_len boot_len (zf (xv 1) zm zb) zb) (xe_c (pe_glob (v:=.int (32)) rfl t.c_MOST_PIECES t.r_MOST_PIECES) fun _=>.int _)))
   (zy (zG xe_bl))
   yh)
   (zq (xs_if (xt_not (xt_val (zL (call_all rfl) n_all rfl t.n_all boot_all (zf (xe_comp (x := "part") (caps:=[0]) (xr (fs:=zu s_are_pieces) (N:=N_are_pieces) rfl rfl (by decide +kernel)) rfl (xi_tup (xv 1)) ⟨fun _ _ _ _ _=>(yc (i:=0) (nd_of (N:=["part", "many"]) rfl (by decide +kernel)) rfl (Or.inl rfl)),fun _ _ _ _ _=>xts_nil,fun _ _ _ _ _=>(xe_and (zx (ok_is_text_of t) hr passN (zf (xv 1) (zf (xv 0) zm zb) zb) zb) (xe_one (xe_cmp (op_neD hr.units) o_ne (xv 0) (yr [] (by decide +kernel)) (yO _))))⟩) zm rfl) rfl)))
   (zy (zG xe_bl))
   yh)
   (zy (zG (zx (ok_is_rising t) hr yw (zf (xv 1) zm zb) zb)))))):FO P w base t 4 t.d_are_pieces (yj 2 g_are_pieces) 2)
abbrev N_first_pair:List Str:=["pieces", "one", "other"]
theorem sc_first_pair:FnScope N_first_pair ["pieces"] (zu s_first_pair):=fsc (by decide +kernel)
theorem ok_first_pair (t:Txt K mg):FO P w base t 1 t.d_first_pair yD 1:=(fnDD 3 1 0 yP (clOf t) t.d_first_pair sc_first_pair fun _ _ _ _ _ _ hr =>
   (zq (xs_nox (xs_forZ (i:=1) (j:=2) PassesOwn.never rfl rfl t.n_zip (xv 0) (yS (xv 0) (xg zH) xo_none) (pg_two (K:=K) (i:=1) (j:=2) rfl rfl sc_first_pair.nd rfl rfl (Or.inl rfl) (Or.inl rfl))
   (zy (xs_if (xt_val (xe_starts (xv 2) (xv 1) ⟨zb,rfl,rfl,rfl,rfl⟩))
   (zy (zG (xe_tup (zf (xv 1) (zf (xv 2) zm zb) zb))))
   yh)) rfl rfl))
   (zy (zG xe_non))):FO P w base t 1 t.d_first_pair (yj 3 yP) 1)
abbrev N_gone_on:List Str:=["many", "texts", "longer", "text", "letter"]
theorem sc_gone_on:FnScope N_gone_on ["many", "texts"] (zu s_gone_on):=fsc (by decide +kernel)
theorem ok_gone_on (t:Txt K mg):FO P w base t 1 t.d_gone_on yG 2:=(fnDD 5 2 0 g_gone_on (clOf t) t.d_gone_on sc_gone_on fun _ _ _ _ _ _ hr =>
   (zq (xs_setO (i:=2) sc_gone_on.nd rfl (Or.inl rfl) (xl_lst zm))
   (zq (xs_nox (xs_for (i:=3) PassesOwn.never rfl (xi_list (xv 1)) (yc (i:=3) sc_gone_on.nd rfl (Or.inl rfl))
   (zy (xs_for (i:=4) PassesOwn.never rfl (xi_str (yS (xe_c (pe_glob (v:=.str (T [97,98,99,100])) rfl t.c_LETTERS t.r_LETTERS) fun _=>.str [97,98,99,100] (T_ok (by decide +kernel) (by decide +kernel))) xo_none (xg (xv 0)))) (yc (i:=4) sc_gone_on.nd rfl (Or.inl rfl))
   (zy (xs_append (pv 2) (yp op_addS o_addS (xv 3) (xv 4)) ⟨star_bin,rfl,rfl,rfl,rfl⟩))))))
   (zy (xs_ice (i:=2) (zG (xv 2)))))):FO P w base t 1 t.d_gone_on (yj 5 g_gone_on) 2)
abbrev N_is_apart:List Str:=["pieces", "text"]
theorem sc_is_apart:FnScope N_is_apart ["pieces", "text"] (zu s_is_apart):=fsc (by decide +kernel)
theorem ok_is_apart (t:Txt K mg):FO P w base t 1 t.d_is_apart zT 2:=(fnDD 2 2 0 g_is_apart (clOf t) t.d_is_apart sc_is_apart fun _ _ _ _ _ _ hr =>
   (zy (zG (xe_not (zL (call_any rfl) n_any rfl t.n_any boot_any (zf (xe_comp (x := "piece") (caps:=[1]) (xr (fs:=zu s_is_apart) (N:=N_is_apart) rfl rfl (by decide +kernel)) rfl (xi_tup (xv 0)) ⟨fun _ _ _ _ _=>(yc (i:=0) (nd_of (N:=["piece", "text"]) rfl (by decide +kernel)) rfl (Or.inl rfl)),fun _ _ _ _ _=>xts_nil,fun _ _ _ _ _=>(xe_or (xe_starts (xv 0) (xv 1) ⟨zb,rfl,rfl,rfl,rfl⟩) (xe_one (xe_starts (xv 1) (xv 0) ⟨zb,rfl,rfl,rfl,rfl⟩)))⟩) zm rfl) rfl)))):FO P w base t 1 t.d_is_apart (yj 2 g_is_apart) 2)
abbrev N_is_inner:List Str:=["pieces", "text"]
theorem sc_is_inner:FnScope N_is_inner ["pieces", "text"] (zu s_is_inner):=fsc (by decide +kernel)
theorem ok_is_inner (t:Txt K mg):FO P w base t 1 t.d_is_inner zU 2:=(fnDD 2 2 0 g_is_inner (clOf t) t.d_is_inner sc_is_inner fun _ _ _ _ _ _ hr =>
   (zy (zG (zL (call_any rfl) n_any rfl t.n_any boot_any (zf (xe_comp (x := "piece") (caps:=[1]) (xr (fs:=zu s_is_inner) (N:=N_is_inner) rfl rfl (by decide +kernel)) rfl (xi_tup (xv 0)) ⟨fun _ _ _ _ _=>(yc (i:=0) (nd_of (N:=["piece", "text"]) rfl (by decide +kernel)) rfl (Or.inl rfl)),fun _ _ _ _ _=>xts_nil,fun _ _ _ _ _=>(xe_and (xe_starts (xv 0) (xv 1) ⟨zb,rfl,rfl,rfl,rfl⟩) (xe_one (xe_cmp (op_neD hr.units) o_ne (xv 0) (xv 1) (yO _))))⟩) zm rfl) rfl))):FO P w base t 1 t.d_is_inner (yj 2 g_is_inner) 2)
abbrev N_first_text_apart:List Str:=["many", "pieces", "inner", "longer", "text"]
theorem sc_first_text_apart:FnScope N_first_text_apart ["many", "pieces"] (zu yL):=fsc (by decide +kernel)
theorem ok_first_text_apart (t:Txt K mg):FO P w base t 2 t.d_first_text_apart yC 2:=(fnDD 5 2 1 xM (clOf t) t.d_first_text_apart sc_first_text_apart fun _ _ _ _ _ _ hr =>
   (zq (yd (i:=2) sc_first_text_apart.nd rfl (Or.inl rfl) (XEw.out (yw_lst (yw_cons (yw_str (l:=[]) (by decide +kernel) (T_ok (by decide +kernel) (by decide +kernel))) yw_nil zB))))
   (zq (xs_nox (xs_while 2000 PassesOwn.never (yW (op_neD hr.units) o_ne (xv 2) (xe_lst zm) (yO _))
   (zq (yd (i:=3) sc_first_text_apart.nd rfl (Or.inl rfl) (zx (ok_gone_on t) hr passN (zf (xv 0) (zf (xv 2) zm zb) zb) zb))
   (zq (xs_for (i:=4) PassesOwn.never rfl (xi_list (xv 3)) (yc (i:=4) sc_first_text_apart.nd rfl (Or.inl rfl))
   (zy (xs_if (xt_val (zx (ok_is_apart t) hr passN (zf (xv 1) (zf (xv 4) zm zb) zb) zb))
   (zy (zG (xv 4)))
   yh)))
   (zy (xs_comp (j:=2) sc_first_text_apart.nd rfl rfl (x := "text") (caps:=[1]) (xr (fs:=zu yL) (N:=N_first_text_apart) rfl rfl (by decide +kernel)) rfl (xi_list (xv 3)) ⟨fun _ _ _ _ _=>(yc (i:=0) (nd_of (N:=["text", "pieces"]) rfl (by decide +kernel)) rfl (Or.inl rfl)),fun _ _ _ _ _=>(xts_one (xt_val (zx (ok_is_inner t) hr passN (zf (xv 1) (zf (xv 0) zm zb) zb) zb))),fun _ _ _ _ _=>(xv 0)⟩ rfl))))))
   (zy (zG xe_non)))):FO P w base t 2 t.d_first_text_apart (yj 5 xM) 2)
abbrev N_first_paper:List Str:=["many", "pieces", "pair"]
theorem sc_first_paper:FnScope N_first_paper ["many", "pieces"] (zu s_first_paper):=fsc (by decide +kernel)
theorem ok_first_paper (t:Txt K mg):FO P w base t 3 t.d_first_paper fn_first_paper 2:=(fnDD 3 2 2 g_first_paper (clOf t) t.d_first_paper sc_first_paper fun _ _ _ _ _ _ hr =>
   (zq (yd (i:=2) sc_first_paper.nd rfl (Or.inl rfl) (zx (ok_first_pair t) hr yw (zf (xv 1) zm zb) zb))
   (zq (xs_if (xt_notN (xv 2))
   (zy (zG (xv 2)))
   yh)
   (zy (zG (zx (ok_first_text_apart t) hr yw (zf (xv 0) (zf (xv 1) zm zb) zb) zb))))):FO P w base t 3 t.d_first_paper (yj 3 g_first_paper) 2)
abbrev N_is_book:List Str:=["many", "thing"]
theorem sc_is_book:FnScope N_is_book ["many", "thing"] (zu s_is_book):=fsc (by decide +kernel)
theorem ok_is_book (t:Txt K mg):FO P w base t 5 t.d_is_book fn_is_book 2:=(fnDD 2 2 4 g_is_book (clOf t) t.d_is_book sc_is_book fun _ _ _ _ _ _ hr =>
   (zy (zG (xe_and (zx (ok_are_pieces t) hr yw (zf (xv 0) (zf (xv 1) zm zb) zb) zb) (xe_one (xe_isN (zx (ok_first_paper t) hr yw (zf (xv 0) (zf (xv 1) zm zb) zb) zb)))))):FO P w base t 5 t.d_is_book (yj 2 g_is_book) 2)
abbrev N_require_book:List Str:=["many", "thing"]
theorem sc_require_book:FnScope N_require_book ["many", "thing"] (zu s_require_book):=fsc (by decide +kernel)
theorem ok_require_book (t:Txt K mg):FO P w base t 6 t.d_require_book yx 2:=(fnDD 2 2 5 g_require_book (clOf t) t.d_require_book sc_require_book fun _ _ _ _ _ _ hr =>
   (zy (xs_if (xt_not (xt_val (zx (ok_is_book t) hr yw (zf (xv 0) (zf (xv 1) zm zb) zb) zb)))
   (zy (xs_raise t.x_NoBook rfl rfl (zf (yr [116,104,105,115,32,105,115,32,110,111,32,98,111,111,107,32,111,102,32,115,111,32,109,97,110,121,32,108,101,116,116,101,114,115] (by decide +kernel)) zm zB) zB))
   yh)):FO P w base t 6 t.d_require_book (yj 2 g_require_book) 2)
abbrev N_bits_for:List Str:=["size", "bits", "room"]
theorem sc_bits_for:FnScope N_bits_for ["size"] (zu s_bits_for):=fsc (by decide +kernel)
theorem ok_bits_for (t:Txt K mg):FO P w base t 1 t.d_bits_for fn_bits_for 1:=(fnDD 3 1 0 g_bits_for (clOf t) t.d_bits_for sc_bits_for fun _ _ _ _ _ _ hr =>
   (zq (yd (i:=1) sc_bits_for.nd rfl (Or.inl rfl) zH)
   (zq (yd (i:=2) sc_bits_for.nd rfl (Or.inl rfl) zH)
   (zq (xs_nox (xs_while 64 PassesOwn.never (yW op_lt o_ltI (xv 2) (xv 0) (yO _))
   (zq (yd (i:=1) sc_bits_for.nd rfl (Or.inl rfl) (yp op_add o_addI (xv 1) zH))
   (zy (yd (i:=2) sc_bits_for.nd rfl (Or.inl rfl) (yp op_mulS o_mulI (xv 2) zH))))))
   (zy (zG (xv 1)))))):FO P w base t 1 t.d_bits_for (yj 3 g_bits_for) 1)
abbrev N_word_for:List Str:=["number", "bits", "word", "place"]
theorem sc_word_for:FnScope N_word_for ["number", "bits"] (zu s_word_for):=fsc (by decide +kernel)
theorem ok_word_for (t:Txt K mg):FO P w base t 1 t.d_word_for fn_word_for 2:=(fnDD 4 2 0 g_word_for (clOf t) t.d_word_for sc_word_for fun _ _ _ _ _ _ hr =>
   (zq (yd (i:=2) sc_word_for.nd rfl (Or.inl rfl) (yr [] (by decide +kernel)))
   (zq (xs_nox (xs_for (i:=3) PassesOwn.never rfl (xN rfl t.n_range (zf (xv 1) zm zb) rfl) (yc (i:=3) sc_word_for.nd rfl (Or.inl rfl))
   (zq (yd (i:=2) sc_word_for.nd rfl (Or.inl rfl) (yp op_addS o_addS (xe_callTy call_str_int n_str rfl t.n_str boot_str (zf (yp op_mod o_modI (xv 0) zH) zm star_bin) star_bin) (xv 2)))
   (zy (yd (i:=0) sc_word_for.nd rfl (Or.inl rfl) (yp op_fdivS o_fdivI (xv 0) zH))))))
   (zy (zG (xv 2))))):FO P w base t 1 t.d_word_for (yj 4 g_word_for) 2)
abbrev N_words_of:List Str:=["book", "bits"]
theorem sc_words_of:FnScope N_words_of ["book"] (zu s_words_of):=fsc (by decide +kernel)
theorem ok_words_of (t:Txt K mg):FO P w base t 2 t.d_words_of yZ 1:=(fnDD 2 1 1 g_words_of (clOf t) t.d_words_of sc_words_of fun _ _ _ _ _ _ hr =>
   (zq (yd (i:=1) sc_words_of.nd rfl (Or.inr rfl) (zx (ok_bits_for t) hr yw (zf (zL zY n_len rfl t.n_len boot_len (zf (xv 0) zm zb) zb) zm zO) zO))
   (zy (zG (xe_comp (x := "number") (caps:=[1]) (xr (fs:=zu s_words_of) (N:=N_words_of) rfl rfl (by decide +kernel)) rfl (xN rfl t.n_range (zf (zL zY n_len rfl t.n_len boot_len (zf (xv 0) zm zb) zb) zm zO) rfl) ⟨fun _ _ _ _ _=>(yc (i:=0) (nd_of (N:=["number", "bits"]) rfl (by decide +kernel)) rfl (Or.inl rfl)),fun _ _ _ _ _=>xts_nil,fun _ _ _ _ _=>(zx (ok_word_for t) hr passN (zf (xv 0) (zf (xv 1) zm zb) zb) zb)⟩)))):FO P w base t 2 t.d_words_of (yj 2 g_words_of) 1)
abbrev N_other_sign:List Str:=["sign"]
theorem sc_other_sign:FnScope N_other_sign ["sign"] (zu s_other_sign):=fsc (by decide +kernel)
theorem ok_other_sign (t:Txt K mg):FO P w base t 1 t.d_other_sign fn_other_sign 1:=(fnDD 1 1 0 g_other_sign (clOf t) t.d_other_sign sc_other_sign fun _ _ _ _ _ _ hr =>
   (zy (zG (xe_ifExp (yW (op_eqD hr.units) o_eq (xv 0) (yr [48] (by decide +kernel)) (yO _)) (yr [49] (by decide +kernel)) (yr [48] (by decide +kernel))))):FO P w base t 1 t.d_other_sign (yj 1 g_other_sign) 1)
abbrev N_spoilt:List Str:=["signs", "place"]
theorem sc_spoilt:FnScope N_spoilt ["signs", "place"] (zu s_spoilt):=fsc (by decide +kernel)
theorem ok_spoilt (t:Txt K mg):FO P w base t 2 t.d_spoilt fn_spoilt 2:=(fnDD 2 2 1 g_spoilt (clOf t) t.d_spoilt sc_spoilt fun _ _ _ _ _ _ hr =>
   (zy (zG (yp op_addS o_addS (yp op_addS o_addS (yS (xv 0) xo_none (xg (xv 1))) (zx (ok_other_sign t) hr yw (zf (xe_ix (xv 0) (xv 1) (fun _ _=>rfl)) zm xu) xu)) (yS (xv 0) (xg (yp op_add o_addI (xv 1) zH)) xo_none)))):FO P w base t 2 t.d_spoilt (yj 2 g_spoilt) 2)
abbrev N_risky:List Str:=["many", "book", "words", "found", "word", "place"]
theorem sc_risky:FnScope N_risky ["many", "book"] (zu s_risky):=fsc (by decide +kernel)
theorem ok_risky (t:Txt K mg):FO P w base t 7 t.d_risky fn_risky 2:=(fnDD 6 2 6 g_risky (clOf t) t.d_risky sc_risky fun _ _ _ _ _ _ hr =>
   (zq (xs_expr (zx (ok_require_book t) hr yw (zf (xv 0) (zf (xv 1) zm zb) zb) zb))
   (zq (yd (i:=2) sc_risky.nd rfl (Or.inl rfl) (zx (ok_words_of t) hr yw (zf (xv 1) zm zb) zb))
   (zq (xs_setO (i:=3) sc_risky.nd rfl (Or.inl rfl) (xl_lst zm))
   (zq (xs_nox (xs_for (i:=4) PassesOwn.never rfl (xi_list (xv 2)) (yc (i:=4) sc_risky.nd rfl (Or.inl rfl))
   (zy (xs_for (i:=5) PassesOwn.never rfl (xN rfl t.n_range (zf (zL zY n_len rfl t.n_len boot_len (zf (xv 4) zm zb) zb) zm zO) rfl) (yc (i:=5) sc_risky.nd rfl (Or.inl rfl))
   (zy (xs_if (yW op_notIn_seq o_in (zx (ok_spoilt t) hr passN (zf (xv 4) (zf (xv 5) zm zb) zb) zb) (xv 2) (by with_unfolding_all rfl))
   (zy (xs_append (pv 3) (xe_tup (zf (xv 4) (zf (xv 5) zm zb) zb)) ⟨star_tup,rfl,rfl,rfl,rfl⟩))
   yh))))))
   (zy (xs_ice (i:=3) (zG (xv 3)))))))):FO P w base t 7 t.d_risky (yj 6 g_risky) 2)
abbrev N_require_piece:List Str:=["book", "thing"]
theorem sc_require_piece:FnScope N_require_piece ["book", "thing"] (zu s_require_piece):=fsc (by decide +kernel)
theorem ok_require_piece (t:Txt K mg):FO P w base t 1 t.d_require_piece fn_require_piece 2:=(fnDD 2 2 0 g_require_piece (clOf t) t.d_require_piece sc_require_piece fun _ _ _ _ _ _ hr =>
   (zy (xs_if (yW op_notIn_seq o_in (xv 1) (xv 0) (by with_unfolding_all rfl))
   (zy (xs_raise t.x_NoPiece rfl rfl (zf (yr [116,104,105,115,32,105,115,32,110,111,32,112,105,101,99,101,32,111,102,32,116,104,101,32,98,111,111,107] (by decide +kernel)) zm zB) zB))
   yh)):FO P w base t 1 t.d_require_piece (yj 2 g_require_piece) 2)
abbrev N_word_of:List Str:=["many", "book", "piece"]
theorem sc_word_of:FnScope N_word_of ["many", "book", "piece"] (zu s_word_of):=fsc (by decide +kernel)
theorem ok_word_of (t:Txt K mg):FO P w base t 7 t.d_word_of yF 3:=(fnDD 3 3 6 g_word_of (clOf t) t.d_word_of sc_word_of fun _ _ _ _ _ _ hr =>
   (zq (xs_expr (zx (ok_require_book t) hr yw (zf (xv 0) (zf (xv 1) zm zb) zb) zb))
   (zq (xs_expr (zx (ok_require_piece t) hr yw (zf (xv 1) (zf (xv 2) zm zb) zb) zb))
   (zy (zG (xe_ix (zx (ok_words_of t) hr yw (zf (xv 1) zm zb) zb) (xe_idxT (xv 1) (xv 2) ⟨zb,rfl,rfl,rfl,rfl⟩) (fun _ _=>rfl)))))):FO P w base t 7 t.d_word_of (yj 3 g_word_of) 3)
abbrev N_whole_words:List Str:=["book", "signs", "bits"]
theorem sc_whole_words:FnScope N_whole_words ["book", "signs"] (zu s_whole_words):=fsc (by decide +kernel)
theorem ok_whole_words (t:Txt K mg):FO P w base t 2 t.d_whole_words fn_whole_words 2:=(fnDD 3 2 1 g_whole_words (clOf t) t.d_whole_words sc_whole_words fun _ _ _ _ _ _ hr =>
   (zq (yd (i:=2) sc_whole_words.nd rfl (Or.inr rfl) (zx (ok_bits_for t) hr yw (zf (zL zY n_len rfl t.n_len boot_len (zf (xv 0) zm zb) zb) zm zO) zO))
   (zq (xs_if (XW.xt (xw_or (xt_not (xt_val (xe_isi kit_str rfl t.n_isinstance (xv 1) (pe_bltn (v:=.ty "str") rfl t.n_str boot_str rfl) zb))) (xw_or1 (yW (op_neD hr.units) o_ne (yp op_mod o_modI (zL zY n_len rfl t.n_len boot_len (zf (xv 1) zm zb) zb) (xv 2)) zH (yO _)))))
   (zy (xs_raise t.x_NoWord rfl rfl (zf (yr [116,104,101,115,101,32,97,114,101,32,110,111,32,119,104,111,108,101,32,119,111,114,100,115] (by decide +kernel)) zm zB) zB))
   yh)
   (zy (zG (xe_comp (x := "start") (caps:=[1,2]) (xr (fs:=zu s_whole_words) (N:=N_whole_words) rfl rfl (by decide +kernel)) rfl (xi_range3 rfl t.n_range (zf zH (zf (zL zY n_len rfl t.n_len boot_len (zf (xv 1) zm zb) zb) (zf (xv 2) zm zb) zO) zB) rfl rfl) ⟨fun _ _ _ _ _=>(yc (i:=0) (nd_of (N:=["start", "signs", "bits"]) rfl (by decide +kernel)) rfl (Or.inl rfl)),fun _ _ _ _ _=>xts_nil,fun _ _ _ _ _=>(yS (xv 1) (xg (xv 0)) (xg (yp op_add o_addI (xv 0) (xv 2))))⟩))))):FO P w base t 2 t.d_whole_words (yj 3 g_whole_words) 2)
abbrev N_text_of_words:List Str:=["book", "words", "pieces", "word"]
theorem sc_text_of_words:FnScope N_text_of_words ["book", "words"] (zu xq):=fsc (by decide +kernel)
theorem ok_text_of_words (t:Txt K mg):FO P w base t 3 t.d_text_of_words zK 2:=(fnDD 4 2 2 yN (clOf t) t.d_text_of_words sc_text_of_words fun _ _ _ _ _ _ hr =>
   (zq (yd (i:=2) sc_text_of_words.nd rfl (Or.inr rfl) (xe_dictzip rfl rfl t.n_dict rfl t.n_zip (zx (ok_words_of t) hr yw (zf (xv 0) zm zb) zb) (xv 0)))
   (zq (xs_for (i:=3) PassesOwn.leaving rfl (xi_list (xv 1)) (yc (i:=3) sc_text_of_words.nd rfl (Or.inl rfl))
   (zy (xs_if (xt_notInDc (hu_of hr) (xv 3) (xv 2))
   (zy (xs_raise t.x_NoWord rfl rfl (zf (yr [111,110,101,32,111,102,32,116,104,101,115,101,32,105,115,32,110,111,32,119,111,114,100,32,111,102,32,97,32,112,105,101,99,101] (by decide +kernel)) zm zB) zB))
   yh)))
   (zy (zG (xe_join (yr [] (by decide +kernel)) (xe_comp (x := "word") (caps:=[2]) (xr (fs:=zu xq) (N:=N_text_of_words) rfl rfl (by decide +kernel)) rfl (xi_list (xv 1)) ⟨fun _ _ _ _ _=>(yc (i:=0) (nd_of (N:=["word", "pieces"]) rfl (by decide +kernel)) rfl (Or.inl rfl)),fun _ _ _ _ _=>xts_nil,fun _ _ _ _ _=>(xe_get (hu_of hr) (xv 1) (xv 0))⟩) ⟨rfl,rfl,rfl,rfl,rfl⟩))))):FO P w base t 3 t.d_text_of_words (yj 4 yN) 2)
abbrev N_from_word:List Str:=["many", "book", "signs", "number", "words"]
theorem sc_from_word:FnScope N_from_word ["many", "book", "signs", "number"] (zu s_from_word):=fsc (by decide +kernel)
theorem ok_from_word (t:Txt K mg):FO P w base t 7 t.d_from_word xj 4:=(fnDD 5 4 6 g_from_word (clOf t) t.d_from_word sc_from_word fun _ _ _ _ _ _ hr =>
   (zq (xs_expr (zx (ok_require_book t) hr yw (zf (xv 0) (zf (xv 1) zm zb) zb) zb))
   (zq (yd (i:=4) sc_from_word.nd rfl (Or.inl rfl) (zx (ok_whole_words t) hr yw (zf (xv 1) (zf (xv 2) zm zb) zb) zb))
   (zy (zG (zx (ok_text_of_words t) hr yw (zf (xv 1) (zf (yS (xv 4) (xg (zL (call_max2 rfl) n_max rfl t.n_max boot_max (zf (xv 3) (zf zH zm zB) zb) zb)) xo_none) zm xu) zb) zb))))):FO P w base t 7 t.d_from_word (yj 5 g_from_word) 4)
abbrev N_back:List Str:=["many", "book", "signs"]
theorem sc_back:FnScope N_back ["many", "book", "signs"] (zu s_back):=fsc (by decide +kernel)
theorem ok_back (t:Txt K mg):FO P w base t 8 t.d_back yX 3:=(fnDD 3 3 7 g_back (clOf t) t.d_back sc_back fun _ _ _ _ _ _ hr =>
   (zy (zG (zx (ok_from_word t) hr yw (zf (xv 0) (zf (xv 1) (zf (xv 2) (zf zH zm zB) zb) zb) zb) zb))):FO P w base t 8 t.d_back (yj 3 g_back) 3)
abbrev N_require_between:List Str:=["thing", "least", "most"]
theorem sc_require_between:FnScope N_require_between ["thing", "least", "most"] (zu s_require_between):=fsc (by decide +kernel)
theorem ok_require_between (t:Txt K mg):FO P w base t 3 t.d_require_between xO 3:=(fnDD 3 3 2 g_require_between (clOf t) t.d_require_between sc_require_between fun _ _ _ _ _ _ hr =>
   (zy (xs_if (xt_not (xt_val (zx (ok_is_between t) hr yw (zf (xv 0) (zf (xv 1) (zf (xv 2) zm zb) zb) zb) zb)))
   (zy (xs_raise t.x_NoSize rfl rfl (zf (yr [116,104,105,115,32,105,115,32,110,111,32,119,104,111,108,101,32,110,117,109,98,101,114,32,119,105,116,104,105,110,32,105,116,115,32,98,111,117,110,100,115] (by decide +kernel)) zm zB) zB))
   yh)):FO P w base t 3 t.d_require_between (yj 3 g_require_between) 3)
abbrev N_flipped:List Str:=["many", "book", "signs", "place"]
theorem sc_flipped:FnScope N_flipped ["many", "book", "signs", "place"] (zu s_flipped):=fsc (by decide +kernel)
theorem ok_flipped (t:Txt K mg):FO P w base t 9 t.d_flipped fn_flipped 4:=(fnDD 4 4 8 g_flipped (clOf t) t.d_flipped sc_flipped fun _ _ _ _ _ _ hr =>
   (zq (xs_expr (zx (ok_back t) hr yw (zf (xv 0) (zf (xv 1) (zf (xv 2) zm zb) zb) zb) zb))
   (zq (xs_expr (zx (ok_require_between t) hr yw (zf (xv 3) (zf zH (zf (yp op_sub o_subI (zL zY n_len rfl t.n_len boot_len (zf (xv 2) zm zb) zb) zH) zm star_bin) zB) zb) zb))
   (zy (zG (zx (ok_back t) hr yw (zf (xv 0) (zf (xv 1) (zf (zx (ok_spoilt t) hr yw (zf (xv 2) (zf (xv 3) zm zb) zb) zb) zm zO) zb) zb) zb))))):FO P w base t 9 t.d_flipped (yj 4 g_flipped) 4)
abbrev N__law_flipped:List Str:=["_law_many", "_law_book_here", "_law_signs", "_law_place"]
theorem sc__law_flipped:FnScope N__law_flipped ["_law_many", "_law_book_here", "_law_signs", "_law_place"] (zu s__law_flipped):=fsc (by decide +kernel)
theorem ok__law_flipped (t:Txt K mg):FO P w base t 10 t.d__law_flipped xK 4:=(fnDD 4 4 9 g__law_flipped (clOf t) t.d__law_flipped sc__law_flipped fun _ _ _ _ _ _ hr =>
   (zy (xs_tryN (cs:=[4]) (xx_callD (ok_flipped t) hr (zf (xv 0) (zf (xv 1) (zf (xv 2) (zf (xv 3) zm zb) zb) zb) zb) zb) t.x_NoWord rfl (subs_cons t.s_NoWord subs_nil) (fun _=>xe_non) rfl rfl)):FO P w base t 10 t.d__law_flipped (yj 4 g__law_flipped) 4)
abbrev N_piece_of:List Str:=["many", "book", "word", "words"]
theorem sc_piece_of:FnScope N_piece_of ["many", "book", "word"] (zu s_piece_of):=fsc (by decide +kernel)
theorem ok_piece_of (t:Txt K mg):FO P w base t 7 t.d_piece_of fn_piece_of 3:=(fnDD 4 3 6 g_piece_of (clOf t) t.d_piece_of sc_piece_of fun _ _ _ _ _ _ hr =>
   (zq (xs_expr (zx (ok_require_book t) hr yw (zf (xv 0) (zf (xv 1) zm zb) zb) zb))
   (zq (yd (i:=3) sc_piece_of.nd rfl (Or.inl rfl) (zx (ok_words_of t) hr yw (zf (xv 1) zm zb) zb))
   (zq (xs_if (yW op_notIn_seq o_in (xv 2) (xv 3) (by with_unfolding_all rfl))
   (zy (xs_raise t.x_NoWord rfl rfl (zf (yr [116,104,105,115,32,105,115,32,110,111,32,119,111,114,100,32,111,102,32,97,32,112,105,101,99,101] (by decide +kernel)) zm zB) zB))
   yh)
   (zy (zG (xe_ix (xv 1) (xe_idxL (xv 3) (xv 2) ⟨zb,rfl,rfl,rfl,rfl⟩) (fun _ _=>rfl))))))):FO P w base t 7 t.d_piece_of (yj 4 g_piece_of) 3)
abbrev N_unlike:List Str:=["many", "book", "one", "other", "one_word", "other_word"]
theorem sc_unlike:FnScope N_unlike ["many", "book", "one", "other"] (zu s_unlike):=fsc (by decide +kernel)
theorem ok_unlike (t:Txt K mg):FO P w base t 8 t.d_unlike xG 4:=(fnDD 6 4 7 g_unlike (clOf t) t.d_unlike sc_unlike fun _ _ _ _ _ _ hr =>
   (zq (yd (i:=4) sc_unlike.nd rfl (Or.inr rfl) (zx (ok_word_of t) hr yw (zf (xv 0) (zf (xv 1) (zf (xv 2) zm zb) zb) zb) zb))
   (zq (yd (i:=5) sc_unlike.nd rfl (Or.inr rfl) (zx (ok_word_of t) hr yw (zf (xv 0) (zf (xv 1) (zf (xv 3) zm zb) zb) zb) zb))
   (zy (zG (zL zY n_len rfl t.n_len boot_len (zf (xe_comp (x := "place") (caps:=[4,5]) (xr (fs:=zu s_unlike) (N:=N_unlike) rfl rfl (by decide +kernel)) rfl (xN rfl t.n_range (zf (zL zY n_len rfl t.n_len boot_len (zf (xv 4) zm zb) zb) zm zO) rfl) ⟨fun _ _ _ _ _=>(yc (i:=0) (nd_of (N:=["place", "one_word", "other_word"]) rfl (by decide +kernel)) rfl (Or.inl rfl)),fun _ _ _ _ _=>(xts_one (yW (op_neD hr.units) o_ne (xe_ix (xv 1) (xv 0) (fun _ _=>rfl)) (xe_ix (xv 2) (xv 0) (fun _ _=>rfl)) (yO _))),fun _ _ _ _ _=>(xv 0)⟩) zm rfl) rfl))))):FO P w base t 8 t.d_unlike (yj 6 g_unlike) 4)
abbrev N__law_is_one:List Str:=["_law_many", "_law_book_here", "_law_pieces", "_law_at", "_law_there", "_law_rest", "_law_head", "_law_piece"]
theorem sc__law_is_one:FnScope N__law_is_one ["_law_many", "_law_book_here", "_law_pieces", "_law_at", "_law_there"] (zu s__law_is_one):=fsc (by decide +kernel)
theorem ok__law_is_one (t:Txt K mg):FO P w base t 9 t.d__law_is_one fn__law_is_one 5:=(fnDD 8 5 8 g__law_is_one (clOf t) t.d__law_is_one sc__law_is_one fun _ _ _ _ _ _ hr =>
   (zq (yd (i:=5) sc__law_is_one.nd rfl (Or.inl rfl) (xe_join (yr [] (by decide +kernel)) (yS (xv 2) (xg (yp op_add o_addI (xv 3) zH)) xo_none) ⟨xu,rfl,rfl,rfl,rfl⟩))
   (zq (yd (i:=6) sc__law_is_one.nd rfl (Or.inl rfl) (xe_join (yr [] (by decide +kernel)) (yS (xv 2) xo_none (xg (xv 3))) ⟨xu,rfl,rfl,rfl,rfl⟩))
   (zq (yd (i:=7) sc__law_is_one.nd rfl (Or.inl rfl) (yS (xv 4) (xg (zL zY n_len rfl t.n_len boot_len (zf (xv 6) zm zb) zb)) (xg (yp op_sub o_subI (zL zY n_len rfl t.n_len boot_len (zf (xv 4) zm zb) zb) (zL zY n_len rfl t.n_len boot_len (zf (xv 5) zm zb) zb)))))
   (zq (xs_if (XW.xt (xw_or (xt_not (xt_val (xe_starts (xv 4) (xv 6) ⟨zb,rfl,rfl,rfl,rfl⟩))) (xw_or (xt_not (xt_val (xe_ends (xv 4) (xv 5) ⟨zb,rfl,rfl,rfl,rfl⟩))) (xw_or1 (yW op_notIn_seq o_in (xv 7) (xv 1) (by with_unfolding_all rfl))))))
   (zy (zG xe_bl))
   yh)
   (zy (zG (xe_cmp (op_eqD hr.units) o_eq (zx (ok_unlike t) hr yw (zf (xv 0) (zf (xv 1) (zf (xv 7) (zf (xe_ix (xv 2) (xv 3) (fun _ _=>rfl)) zm xu) zb) zb) zb) zb) zH (yO _)))))))):FO P w base t 9 t.d__law_is_one (yj 8 g__law_is_one) 5)
abbrev N_law:List Str:=["_law_script", "_law_many", "_law_book_here", "_law_long", "_law_some", "_law_pieces", "_law_signs", "_law_place", "_law_at", "_law_word", "_law_there", "_law_new", "_law_one", "_law_other", "_law_far"]
theorem sc_law:FnScope N_law ["_law_script"] (zu s_law):=fsc (by decide +kernel)
theorem ok_law (t:Txt K mg):FO P w base t 11 t.d_law fn_law 1:=(fnDD 15 1 10 g_law (clOf t) t.d_law sc_law fun _ _ _ _ _ _ hr =>
   (zq (yd (i:=1) sc_law.nd rfl (Or.inr rfl) (yp op_add o_addI zH (zx (ok__law_drawn t) hr yw (zf (xv 0) (zf zH (zf zH zm zB) zB) zb) zb)))
   (zq (yd (i:=2) sc_law.nd rfl (Or.inr rfl) (zx (ok__law_book t) hr yw (zf (xv 0) (zf zH (zf (xv 1) (zf (zx (ok__law_drawn t) hr yw (zf (xv 0) (zf zH (zf zH zm zB) zB) zb) zb) zm zO) zb) zB) zb) zb))
   (zq (yd (i:=3) sc_law.nd rfl (Or.inl rfl) (zL zY n_len rfl t.n_len boot_len (zf (zx (ok_word_of t) hr yw (zf (xv 1) (zf (xv 2) (zf (xe_ix (xv 2) zH (fun _ _=>rfl)) zm xu) zb) zb) zb) zm zO) zO))
   (zq (yd (i:=4) sc_law.nd rfl (Or.inl rfl) (zx (ok_risky t) hr yw (zf (xv 1) (zf (xv 2) zm zb) zb) zb))
   (zq (xs_if (XW.xt (xw_or (yW (op_neD hr.units) o_ne (xv 4) (XL.xe (xl_sortsetT rfl (hu20 hr) rfl t.n_sorted rfl t.n_set (xv 4) zb)) (yO _)) (xw_or1 (XW.xt (xw_and (yW op_in_seq o_in (zL zY n_len rfl t.n_len boot_len (zf (xv 2) zm zb) zb) (XEw.out (yw_tup (yw_cons yw_int (yw_cons yw_int (yw_cons yw_int (yw_cons yw_int yw_nil zB) zB) zB) zB))) (by with_unfolding_all rfl)) (xw_and1 (yW (op_neD hr.units) o_ne (xv 4) (xe_lst zm) (yO _))))))))
   (zy (zG xe_bl))
   yh)
   (zq (xs_comp (j:=5) sc_law.nd rfl rfl (x := "_law_k") (caps:=[2,0]) (xr (fs:=zu s_law) (N:=N_law) rfl rfl (by decide +kernel)) rfl (xN rfl t.n_range (zf (yp op_add o_addI zH (zx (ok__law_drawn t) hr yw (zf (xv 0) (zf zH (zf zH zm zB) zB) zb) zb)) zm star_bin) rfl) ⟨fun _ _ _ _ _=>(yc (i:=0) (nd_of (N:=["_law_k", "_law_book_here", "_law_script"]) rfl (by decide +kernel)) rfl (Or.inl rfl)),fun _ _ _ _ _=>xts_nil,fun _ _ _ _ _=>(xe_ix (xv 1) (zx (ok__law_drawn t) hr passN (zf (xv 2) (zf (yp op_add o_addI zH (xv 0)) (zf (zL zY n_len rfl t.n_len boot_len (zf (xv 1) zm zb) zb) zm zO) star_bin) zb) zb) (fun _ _=>rfl))⟩ rfl)
   (zq (yd (i:=6) sc_law.nd rfl (Or.inl rfl) (xe_join (yr [] (by decide +kernel)) (xe_comp (x := "_law_piece") (caps:=[1,2]) (xr (fs:=zu s_law) (N:=N_law) rfl rfl (by decide +kernel)) rfl (xi_list (xv 5)) ⟨fun _ _ _ _ _=>(yc (i:=0) (nd_of (N:=["_law_piece", "_law_many", "_law_book_here"]) rfl (by decide +kernel)) rfl (Or.inl rfl)),fun _ _ _ _ _=>xts_nil,fun _ _ _ _ _=>(zx (ok_word_of t) hr passN (zf (xv 1) (zf (xv 2) (zf (xv 0) zm zb) zb) zb) zb)⟩) ⟨rfl,rfl,rfl,rfl,rfl⟩))
   (zq (xs_if (yW (op_neD hr.units) o_ne (zx (ok_back t) hr yw (zf (xv 1) (zf (xv 2) (zf (xv 6) zm zb) zb) zb) zb) (xe_join (yr [] (by decide +kernel)) (xv 5) ⟨zb,rfl,rfl,rfl,rfl⟩) (yO _))
   (zy (zG xe_bl))
   yh)
   (zq (xs_nox (xs_for (i:=7) PassesOwn.never rfl (xN rfl t.n_range (zf (zL zY n_len rfl t.n_len boot_len (zf (xv 6) zm zb) zb) zm zO) rfl) (yc (i:=7) sc_law.nd rfl (Or.inl rfl))
   (zq (yd (i:=8) sc_law.nd rfl (Or.inl rfl) (yp op_fdivS o_fdivI (xv 7) (xv 3)))
   (zq (yd (i:=9) sc_law.nd rfl (Or.inl rfl) (zx (ok_word_of t) hr passN (zf (xv 1) (zf (xv 2) (zf (xe_ix (xv 5) (xv 8) (fun _ _=>rfl)) zm xu) zb) zb) zb))
   (zq (yd (i:=10) sc_law.nd rfl (Or.inl rfl) (zx (ok__law_flipped t) hr passN (zf (xv 1) (zf (xv 2) (zf (xv 6) (zf (xv 7) zm zb) zb) zb) zb) zb))
   (zq (xs_if (yW (op_neD hr.units) o_ne (xe_isN (xv 10)) (xe_cmp (op_inDD hr.units) o_inDD (xe_tup (zf (xv 9) (zf (yp op_mod o_modI (xv 7) (xv 3)) zm star_bin) zb)) (xv 4) (by with_unfolding_all rfl)) (yO _))
   (zy (zG xe_bl))
   yh)
   (zy (xs_if (xt_notN (xv 10))
   (zq (xs_if (xt_not (xt_val (zx (ok__law_is_one t) hr passN (zf (xv 1) (zf (xv 2) (zf (xv 5) (zf (xv 8) (zf (xv 10) zm zb) zb) zb) zb) zb) zb)))
   (zy (zG xe_bl))
   yh)
   (zq (yd (i:=11) sc_law.nd rfl (Or.inl rfl) (yp op_addS o_addS (yp op_addS o_addS (yS (xv 6) xo_none (xg (xv 7))) (xe_ifExp (yW (op_eqD hr.units) o_eq (xe_ix (xv 6) (xv 7) (fun _ _=>rfl)) (yr [48] (by decide +kernel)) (yO _)) (yr [49] (by decide +kernel)) (yr [48] (by decide +kernel)))) (yS (xv 6) (xg (yp op_add o_addI (xv 7) zH)) xo_none)))
   (zq (xs_if (yW (op_neD hr.units) o_ne (zx (ok_back t) hr passN (zf (xv 1) (zf (xv 2) (zf (xv 11) zm zb) zb) zb) zb) (xv 10) (yO _))
   (zy (zG xe_bl))
   yh)
   (zy (xs_if (yW (op_neD hr.units) o_ne (zx (ok__law_flipped t) hr passN (zf (xv 1) (zf (xv 2) (zf (xv 11) (zf (xv 7) zm zb) zb) zb) zb) zb) (xe_join (yr [] (by decide +kernel)) (xv 5) ⟨zb,rfl,rfl,rfl,rfl⟩) (yO _))
   (zy (zG xe_bl))
   yh)))))
   yh))))))))
   (zq (xs_nox (xs_for (i:=12) PassesOwn.never rfl (xi_list (xv 5)) (yc (i:=12) sc_law.nd rfl (Or.inl rfl))
   (zy (xs_for (i:=13) PassesOwn.never rfl (xi_list (xv 5)) (yc (i:=13) sc_law.nd rfl (Or.inl rfl))
   (zq (yd (i:=14) sc_law.nd rfl (Or.inl rfl) (zx (ok_unlike t) hr passN (zf (xv 1) (zf (xv 2) (zf (xv 12) (zf (xv 13) zm zb) zb) zb) zb) zb))
   (zq (xs_if (XW.xt (xw_or (yW (op_neD hr.units) o_ne (xv 14) (zx (ok_unlike t) hr passN (zf (xv 1) (zf (xv 2) (zf (xv 13) (zf (xv 12) zm zb) zb) zb) zb) zb) (yO _)) (xw_or1 (yW (op_neD hr.units) o_ne (xe_cmp (op_eqD hr.units) o_eq (xv 14) zH (yO _)) (xe_cmp (op_eqD hr.units) o_eq (xv 12) (xv 13) (yO _)) (yO _)))))
   (zy (zG xe_bl))
   yh)
   (zy (xs_if (yW op_gt o_gtI (xv 14) (yp op_add o_addI (zx (ok_unlike t) hr passN (zf (xv 1) (zf (xv 2) (zf (xv 12) (zf (xe_ix (xv 5) zH (fun _ _=>rfl)) zm xu) zb) zb) zb) zb) (zx (ok_unlike t) hr passN (zf (xv 1) (zf (xv 2) (zf (xe_ix (xv 5) zH (fun _ _=>rfl)) (zf (xv 13) zm zb) xu) zb) zb) zb)) (yO _))
   (zy (zG xe_bl))
   yh))))))))
   (zy (zG (xe_cmp (op_eqD hr.units) o_eq (zx (ok_piece_of t) hr yw (zf (xv 1) (zf (xv 2) (zf (zx (ok_word_of t) hr yw (zf (xv 1) (zf (xv 2) (zf (xe_ix (xv 2) (xe_neg zH) (fun _ _=>rfl)) zm xu) zb) zb) zb) zm zO) zb) zb) zb) (xe_ix (xv 2) (xe_neg zH) (fun _ _=>rfl)) (yO _)))))))))))))):FO P w base t 11 t.d_law (yj 15 g_law) 1)
end
end K43
namespace K43
open PySem L2
theorem all_mk {l:PySem.W.OpenLaw}{w:World}{K:PySem.W.Frag}{h:Heap}{mg:Str→Option Value}{fa:Addr}(X:K.In h)(G:h.Ns mainGlobals mg)(hfa:mg "law" = some (.ref fa))
  {vFEWEST_LETTERS vLETTERS vMOST_PIECES:Value}
  (a0:Dz K "_law_cell" s__law_cell)
  (a1:Dz K "_law_drawn" s__law_drawn)
  (a2:Dz K "_law_book" s__law_book)
  (a3:Dz K "is_rising" s_is_rising)
  (a4:Dz K "is_whole" s_is_whole)
  (a5:Dz K "is_between" s_is_between)
  (a6:Dz K "is_number_of_letters" yH)
  (a7:Dz K "is_text_of" s_is_text_of)
  (a8:Dz K "are_pieces" s_are_pieces)
  (a9:Dz K "first_pair" s_first_pair)
  (a10:Dz K "gone_on" s_gone_on)
  (a11:Dz K "is_apart" s_is_apart)
  (a12:Dz K "is_inner" s_is_inner)
  (a13:Dz K "first_text_apart" yL)
  (a14:Dz K "first_paper" s_first_paper)
  (a15:Dz K "is_book" s_is_book)
  (a16:Dz K "require_book" s_require_book)
  (a17:Dz K "bits_for" s_bits_for)
  (a18:Dz K "word_for" s_word_for)
  (a19:Dz K "words_of" s_words_of)
  (a20:Dz K "other_sign" s_other_sign)
  (a21:Dz K "spoilt" s_spoilt)
  (a22:Dz K "risky" s_risky)
  (a23:Dz K "require_piece" s_require_piece)
  (a24:Dz K "word_of" s_word_of)
  (a25:Dz K "whole_words" s_whole_words)
  (a26:Dz K "text_of_words" xq)
  (a27:Dz K "from_word" s_from_word)
  (a28:Dz K "back" s_back)
  (a29:Dz K "require_between" s_require_between)
  (a30:Dz K "flipped" s_flipped)
  (a31:Dz K "_law_flipped" s__law_flipped)
  (a32:Dz K "piece_of" s_piece_of)
  (a33:Dz K "unlike" s_unlike)
  (a34:Dz K "_law_is_one" s__law_is_one)
  (a35:Dz K "law" s_law)
  (wFEWEST_LETTERS:PySem.W.nsIn K mainGlobals "FEWEST_LETTERS" = some (some vFEWEST_LETTERS)) (rFEWEST_LETTERS:RelV (.int (2)) vFEWEST_LETTERS)
  (wLETTERS:PySem.W.nsIn K mainGlobals "LETTERS" = some (some vLETTERS)) (rLETTERS:RelV (.str (T [97,98,99,100])) vLETTERS)
  (wMOST_PIECES:PySem.W.nsIn K mainGlobals "MOST_PIECES" = some (some vMOST_PIECES)) (rMOST_PIECES:RelV (.int (32)) vMOST_PIECES)
  (zall:PySem.W.nsIn K mainGlobals "all" = some none)
  (zany:PySem.W.nsIn K mainGlobals "any" = some none)
  (zbool:PySem.W.nsIn K mainGlobals "bool" = some none)
  (zdict:PySem.W.nsIn K mainGlobals "dict" = some none)
  (zint:PySem.W.nsIn K mainGlobals "int" = some none)
  (zisinstance:PySem.W.nsIn K mainGlobals "isinstance" = some none)
  (zlen:PySem.W.nsIn K mainGlobals "len" = some none)
  (zmax:PySem.W.nsIn K mainGlobals "max" = some none)
  (zrange:PySem.W.nsIn K mainGlobals "range" = some none)
  (zset:PySem.W.nsIn K mainGlobals "set" = some none)
  (zsorted:PySem.W.nsIn K mainGlobals "sorted" = some none)
  (zstr:PySem.W.nsIn K mainGlobals "str" = some none)
  (ztuple:PySem.W.nsIn K mainGlobals "tuple" = some none)
  (zzip:PySem.W.nsIn K mainGlobals "zip" = some none)
  {xa_NoBook xa_NoPiece xa_NoSize xa_NoWord:Addr}
  (y_NoBook:PySem.W.nsIn K mainGlobals "NoBook" = some (some (.ref xa_NoBook))) (q_NoBook:PySem.W.excIn K xa_NoBook [.type "ValueError", .type "Exception", .type "BaseException", .type "object"] "ValueError.__new__" = true)
  (y_NoPiece:PySem.W.nsIn K mainGlobals "NoPiece" = some (some (.ref xa_NoPiece))) (q_NoPiece:PySem.W.excIn K xa_NoPiece [.type "ValueError", .type "Exception", .type "BaseException", .type "object"] "ValueError.__new__" = true)
  (y_NoSize:PySem.W.nsIn K mainGlobals "NoSize" = some (some (.ref xa_NoSize))) (q_NoSize:PySem.W.excIn K xa_NoSize [.type "ValueError", .type "Exception", .type "BaseException", .type "object"] "ValueError.__new__" = true)
  (y_NoWord:PySem.W.nsIn K mainGlobals "NoWord" = some (some (.ref xa_NoWord))) (q_NoWord:PySem.W.excIn K xa_NoWord [.type "ValueError", .type "Exception", .type "BaseException", .type "object"] "ValueError.__new__" = true)
  (ga_NoWord:PySem.W.findIn K (.ref xa_NoWord) "__getattribute__" = some (some (.builtin "BaseException.__getattribute__")))
  (gt_NoWord:PySem.W.findIn K (.ref xa_NoWord) "__getattr__" = some none)
  (cl_NoWord:PySem.W.findIn K (.ref xa_NoWord) "__class__" = some (some (.builtin "object.__class__")))
  (be_NoWord:PySem.W.subIn K (.ref xa_NoWord) (.type "BaseException")=some true)
  (ob_NoWord:PySem.W.subIn K (.ref xa_NoWord) (.type "object")=some true)
  (is_NoWord:PySem.W.isClsIn K xa_NoWord=true)
  (fs_NoWord:PySem.W.subIn K (.ref xa_NoWord) (.ref xa_NoWord)=some true)
  (fv_NoWord:PySem.W.kitOne K (.ref xa_NoWord) (.type "ValueError")=some true) :
  ∃fd:FuncData,(∀(s:Shared) (v:Value),BindsTo s fd ⟨[v],[]⟩ [("_law_script", v)])∧∀base:Heap,K.In base→base.Ns mainGlobals mg→FnOk l.prog w K mg base CX0 11 fa fd ["_law_script"] (sp_law K):=by
 obtain⟨aL,lL,cL,kL⟩:=a35
 have e:=hfa.symm.trans (PySem.W.mg_of X G aL)
 cases e
 have FL:=fun_mk (st:=s_law) lL cL kL
 have bL:=FL.binds (ps:=["_law_script"]) (fun _ _ _ _ _ _=>bd1 fun _=>rfl)
 let t:Txt K mg:=⟨a0.D X G,a1.D X G,a2.D X G,a3.D X G,a4.D X G,a5.D X G,a6.D X G,a7.D X G,a8.D X G,a9.D X G,a10.D X G,a11.D X G,a12.D X G,a13.D X G,a14.D X G,a15.D X G,a16.D X G,a17.D X G,a18.D X G,a19.D X G,a20.D X G,a21.D X G,a22.D X G,a23.D X G,a24.D X G,a25.D X G,a26.D X G,a27.D X G,a28.D X G,a29.D X G,a30.D X G,a31.D X G,a32.D X G,a33.D X G,a34.D X G,⟨_,_,FL,PySem.W.mg_of X G aL,bL⟩,vFEWEST_LETTERS,PySem.W.mg_of X G wFEWEST_LETTERS,rFEWEST_LETTERS,vLETTERS,PySem.W.mg_of X G wLETTERS,rLETTERS,vMOST_PIECES,PySem.W.mg_of X G wMOST_PIECES,rMOST_PIECES,PySem.W.mg_none_of X G zall,PySem.W.mg_none_of X G zany,PySem.W.mg_none_of X G zbool,PySem.W.mg_none_of X G zdict,PySem.W.mg_none_of X G zint,PySem.W.mg_none_of X G zisinstance,PySem.W.mg_none_of X G zlen,PySem.W.mg_none_of X G zmax,PySem.W.mg_none_of X G zrange,PySem.W.mg_none_of X G zset,PySem.W.mg_none_of X G zsorted,PySem.W.mg_none_of X G zstr,PySem.W.mg_none_of X G ztuple,PySem.W.mg_none_of X G zzip,⟨xa_NoBook,PySem.W.mg_of X G y_NoBook,q_NoBook⟩,⟨xa_NoPiece,PySem.W.mg_of X G y_NoPiece,q_NoPiece⟩,⟨xa_NoSize,PySem.W.mg_of X G y_NoSize,q_NoSize⟩,⟨xa_NoWord,PySem.W.mg_of X G y_NoWord,q_NoWord⟩,⟨ga_NoWord,gt_NoWord,cl_NoWord,be_NoWord,ob_NoWord,is_NoWord⟩,fs_NoWord,fv_NoWord⟩
 exact⟨_,fun s v=>.of_eq rfl,fun base _ _=>law_ok (ok_law t) law_true⟩
theorem walk {l:PySem.W.OpenLaw}{q:Program}{loose:List Str}{XP:(Str→Option Value)→Heap→Prop}{YP:World→Heap→Prop}{d:DefRec}{K:Params→PySem.W.Frag}(hn:l.most=some 63)(hdf:d.params.defaults=[])
  (hY:∀(w:World) (h:Heap),YP w h→(K w.params).In h)
  (F:∀(w:World) (mg:Str→Option Value) (fa:Addr) (h:Heap),(K w.params).In h→h.Ns mainGlobals mg→mg d.name=some (.ref fa) →
   ∃fd:FuncData,(∀(s:Shared) (u:Value),BindsTo s fd ⟨[u],[]⟩ [("_law_script", u)])∧∀base:Heap,(K w.params).In base→base.Ns mainGlobals mg→FnOk l.prog w (K w.params) mg base CX0 11 fa fd ["_law_script"] (sp_law (K w.params))) :
  PySem.W.WalkO q loose XP YP l.row.toRowW d [] (fun f vs=>PySem.call f vs) :=
 L2.walk_of (n:=63) (k:=11) (x := "_law_script") (CX:=fun _=>CX0) (sp:=fun w=>sp_law (K w.params)) hn (by decide) hdf ⟨rfl,by decide,by decide⟩ hY F (fun _ _ a ns hl _ hS=>⟨a,ns,rfl,hS,hl,fun _=>rfl⟩) fun _ _ _ _ _ z=>z
end K43
theorem PySem.W.Fast.tw1873512882698168640 : True := trivial
theorem PySem.W.Fast.tw14723931495509866943 : True := trivial
theorem PySem.W.Fast.tw539944912549238132 : True := trivial
theorem PySem.W.Fast.tw15469487596540317119 : True := trivial
theorem PySem.W.Fast.tw14519825834516292890 : True := trivial
theorem PySem.W.Fast.tw16245402333252464578 : True := trivial
theorem PySem.W.Fast.tw427426928667279165 : True := trivial
theorem PySem.W.Fast.tw15164089057608769951 : True := trivial
theorem PySem.W.Fast.tw1561454713894507291 : True := trivial
theorem PySem.W.Fast.tw13061402584762900841 : True := trivial
theorem PySem.W.Fast.tw9175327525322551772 : True := trivial
theorem PySem.W.Fast.tw16735506229192027408 : True := trivial
theorem PySem.W.Fast.tw18193680413285423355 : True := trivial
theorem PySem.W.Fast.tw15980934785759528073 : True := trivial
theorem PySem.W.Fast.tw17721682760389017554 : True := trivial
open PySem PySem.W PyProof.Rows
set_option maxRecDepth 100000 in
set_option maxHeartbeats 0 in
theorem PySem.Challenge.cw_piecebooks_k43_whole_spoilt_holds : PySem.Challenge.rw_piecebooks_k43_whole_spoilt.Holds := by
 w_on;o_law;k_head;(case hw=>w_witness2)
 k_fill
 refine K43.walk (l:=PySem.Challenge.rw_piecebooks_k43_whole_spoilt) rfl rfl (fun w h Y=>PySem.W.kIn_of Y) ?F
 case F =>
  intro w mg fa h KX G hmg
  refine' K43.all_mk KX G hmg ?a0 ?a1 ?a2 ?a3 ?a4 ?a5 ?a6 ?a7 ?a8 ?a9 ?a10 ?a11 ?a12 ?a13 ?a14 ?a15 ?a16 ?a17 ?a18 ?a19 ?a20 ?a21 ?a22 ?a23 ?a24 ?a25 ?a26 ?a27 ?a28 ?a29 ?a30 ?a31 ?a32 ?a33 ?a34 ?a35 ?wFEWEST_LETTERS ?rFEWEST_LETTERS ?wLETTERS ?rLETTERS ?wMOST_PIECES ?rMOST_PIECES ?zall ?zany ?zbool ?zdict ?zint ?zisinstance ?zlen ?zmax ?zrange ?zset ?zsorted ?zstr ?ztuple ?zzip ?y_NoBook ?q_NoBook ?y_NoPiece ?q_NoPiece ?y_NoSize ?q_NoSize ?y_NoWord ?q_NoWord ?ga_NoWord ?gt_NoWord ?cl_NoWord ?be_NoWord ?ob_NoWord ?is_NoWord ?fs_NoWord ?fv_NoWord
  (case a0|a1|a2|a3|a4|a5|a6|a7|a8|a9|a10|a11|a12|a13|a14|a15|a16|a17|a18|a19|a20|a21|a22|a23|a24|a25|a26|a27|a28|a29|a30|a31|a32|a33|a34|a35=>refine' L2.Dz.mk ?za ?zl ?zc ?zk;(case za=>k_is);(case zl=>k_is);(case zc=>k_is);(case zk=>k_is))
  (case wFEWEST_LETTERS=>k_is)
  (case rFEWEST_LETTERS=>exact⟨_,rfl⟩)
  (case wLETTERS=>k_is)
  (case rLETTERS=>exact⟨_,rfl⟩)
  (case wMOST_PIECES=>k_is)
  (case rMOST_PIECES=>exact⟨_,rfl⟩)
  (case y_NoBook=>k_is)
  (case q_NoBook=>k_exc)
  (case y_NoPiece=>k_is)
  (case q_NoPiece=>k_exc)
  (case y_NoSize=>k_is)
  (case q_NoSize=>k_exc)
  (case y_NoWord=>k_is)
  (case q_NoWord=>k_exc)
  (case zall|zany|zbool|zdict|zint|zisinstance|zlen|zmax|zrange|zset|zsorted|zstr|ztuple|zzip=>k_is)
  (case ga_NoWord|gt_NoWord|cl_NoWord|be_NoWord|ob_NoWord|is_NoWord|fs_NoWord=>k_is)
  (case fv_NoWord=>kit_is)
#print axioms PySem.Challenge.cw_piecebooks_k43_whole_spoilt_holds
