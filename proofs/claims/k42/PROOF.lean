import PyProof.Rows.All
import Wide.All
import OpenK.AllK
import Wide.FinOn
import KE.KDictOf
import KE.KDictSum
import KE.KIntText
import KE.KRevIter
import OpenK.KOwn
import PyProof.AttrMissHeap
import PyProof.AutoSeq1
import PyProof.CodeObj
import PyProof.CollectWalk
import PyProof.ConsumeWalk
import PyProof.Conv_int_bool
import PyProof.DictIter
import PyProof.DictKinds
import PyProof.DictUpdate
import PyProof.Draws
import PyProof.EnumIter
import PyProof.EnumMake
import PyProof.EqAt
import PyProof.EqKinds
import PyProof.ExcArgsOwn
import PyProof.FactsAll.dict_1
import PyProof.FactsAll.set
import PyProof.FactsAll.set_2
import PyProof.ListMulRoad
import PyProof.ListNew
import PyProof.ListStr
import PyProof.NeData
import PyProof.P3In
import PyProof.Rows.DictSet
import PyProof.Rows.Range3
import PyProof.Rows.SetFrom
import PyProof.Rows.SortShell
import PyProof.Rows.SortStr
import PyProof.Rows.SortWalk
import PyProof.SeqI3
import PyProof.SetKind
import PyProof.StrOps2
import PyProof.StrWalks
import PyProof.TupleCall
import PyProof.TupleOps
import PyProof.Walks
import PyProof.WalksMore
import PyProof.WalksS
import PyProof.ZipIter
import Lean
import PySem.Challenge.RW_piecebooks_k42_spoilt
set_option Elab.async false
set_option linter.all false
set_option maxRecDepth 100000
namespace L2
open PySem PySem.Spec PyProof.Rows
abbrev Key:=Sum Int Str
def zfn:Key→Value→Bool
 | .inl k,v=>Value.isInt k v
 | .inr x,v=>Value.isStrOf x v
def zm6 (w:World):Key→Int
 | .inl k=>hashInt k
 | .inr x=>hashStr w x
theorem yZ:∀{k:Key}{v:Value},zfn k v=true→(∃i t,k=Sum.inl i∧v=Value.int i t)∨(∃x t,k=Sum.inr x∧v=Value.str x t)
 | .inl i,v,h=>by
  obtain⟨t,e⟩:=Value.isInt_shape (k:=i) (v:=v) h
  exact .inl ⟨i,t,rfl,e⟩
 | .inr x,v,h=>by
  obtain⟨t,e⟩:=Value.isStrOf_shape (x:=x) (v:=v) h
  exact .inr ⟨x,t,rfl,e⟩
theorem zfP (i:Int)(t:Tok):zfn (.inl i) (.int i t)=true:=by simp[zfn,Value.isInt]
theorem zg0 (x:Str)(t:Tok):zfn (.inr x) (.str x t)=true:=by simp[zfn,Value.isStrOf]
theorem zkI (a b:Int):decide ((Sum.inl a:Key)=Sum.inl b)=(a == b):=by
 by_cases e:a=b
 ·subst e;simp
 ·have h:¬(Sum.inl a:Key)=Sum.inl b:=fun q=>e (Sum.inl.inj q)
  rw[decide_eq_false h]
  exact(beq_eq_false_iff_ne.mpr e).symm
theorem zle (a b:Str):decide ((Sum.inr a:Key)=Sum.inr b)=decide (a=b):=by
 by_cases e:a=b
 ·subst e;simp
 ·have h:¬(Sum.inr a:Key)=Sum.inr b:=fun q=>e (Sum.inr.inj q)
  rw[decide_eq_false h,decide_eq_false e]
theorem zkQ (a:Int)(b:Str):decide ((Sum.inl a:Key)=Sum.inr b)=false:=decide_eq_false (fun q=>nomatch q)
theorem zkH (a:Str)(b:Int):decide ((Sum.inr a:Key)=Sum.inl b)=false:=decide_eq_false (fun q=>nomatch q)
def ux (prog:Program)(w:World):PySem.KeyKind prog w Key where
 is:=zfn
 hash:=zm6 w
 inj:=fun v a b ha hb=>by
  rcases yZ ha with⟨i,t,rfl,rfl⟩|⟨x,t,rfl,rfl⟩
  ·rcases yZ hb with⟨j,u,rfl,e⟩|⟨y,u,rfl,e⟩
   ·injection e with e1 _;rw[e1]
   ·exact nomatch e
  ·rcases yZ hb with⟨j,u,rfl,e⟩|⟨y,u,rfl,e⟩
   ·exact nomatch e
   ·injection e with e1 _;rw[e1]
 byValue:=fun k v h=>by
  rcases yZ h with⟨i,t,rfl,rfl⟩|⟨x,t,rfl,rfl⟩ <;>rfl
 pyHash:=fun hv h=>by
  rcases yZ hv with⟨i,t,rfl,rfl⟩|⟨x,t,rfl,rfl⟩
  ·exact wpAny_pyHash_int h
  ·exact wpAny_pyHash_str h
 eqBool:=fun hu hv h=>by
  rcases yZ hu with⟨i,t,rfl,rfl⟩|⟨x,t,rfl,rfl⟩
  ·rcases yZ hv with⟨j,u,rfl,rfl⟩|⟨y,u,rfl,rfl⟩
   ·rw[zkI] at h;exact wpAny_eqBool_int h
   ·rw[zkQ] at h;exact SeqAt.EqAt.int_str i t y u _ _ _ _ h
  ·rcases yZ hv with⟨j,u,rfl,rfl⟩|⟨y,u,rfl,rfl⟩
   ·rw[zkH] at h;exact SeqAt.EqAt.str_int x t j u _ _ _ _ h
   ·rw[zle] at h;exact wpAny_eqBool_str h
 «strs»:=fun k x t v h=>by
  rcases yZ h with⟨i,u,rfl,e⟩|⟨y,u,rfl,e⟩
  ·exact nomatch e
  ·injection e with e1 _
   subst e1
   cases v <;>rfl
theorem zdR (prog:Program)(w:World)(i:Int)(t:Tok):(ux prog w).is (.inl i) (.int i t)=true:=zfP i t
theorem zaS (prog:Program)(w:World)(x:Str)(t:Tok):(ux prog w).is (.inr x) (.str x t)=true:=zg0 x t
end L2
namespace L2
open PySem PySem.Spec PyProof.Rows
inductive V where
 | non|bl (b:Bool)|int (i:Int)|str (x:Str)|byt (b:Array UInt8)|flt (b:UInt64)|ref (a:Addr)|ty (n:String)
 deriving DecidableEq
def RelV:V→Value→Prop
 | .non,u=>u=Value.none
 | .bl b,u=>u=Value.bool b
 | .int i,u=>∃t,u=Value.int i t
 | .str x,u=>∃t,u=Value.str x t
 | .byt b,u=>∃t,u=Value.bytes b t
 | .flt b,u=>∃t,u=Value.float b t
 | .ref a,u=>u=Value.ref a
 | .ty n,u=>u=Value.type n
abbrev Vals:List V→List Value→Prop:=Paired RelV
theorem Vals.length {xs:List V}{us:List Value}(r:Vals xs us):xs.length=us.length:=Paired.length r
theorem Vals.get:∀{xs:List V}{us:List Value}{i:Nat}{x:V},Vals xs us→xs[i]? = some x→∃u,us[i]? = some u∧RelV x u
 | _,_,_,_,.nil,e=>by simp at e
 | _,_,0,_,.cons r _,e=>by simp at e;subst e;exact⟨_,rfl,r⟩
 | _,_,i+1,x,.cons _ t,e=>by
  obtain⟨u,h1,h2⟩:=Vals.get (i:=i) (x:=x) t (by simpa using e)
  exact⟨u,by simpa using h1,h2⟩
theorem Vals.set {x:V}{u:Value}(r:RelV x u):∀{xs:List V}{us:List Value} (i:Nat),Vals xs us→Vals (xs.set i x) (us.set i u)
 | _,_,_,.nil=>.nil
 | _,_,0,.cons _ t=>.cons r t
 | _,_,i+1,.cons q t=>.cons q (Vals.set r i t)
theorem Vals.append:∀{xs ys:List V}{us ws:List Value},Vals xs us→Vals ys ws→Vals (xs++ys) (us++ws):=by
 intro xs ys us ws h k
 induction h with
 | nil=>exact k
 | cons r t ih=>exact .cons r ih
theorem Vals.take:∀{xs:List V}{us:List Value} (n:Nat),Vals xs us→Vals (xs.take n) (us.take n)
 | _,_,0,_=>.nil
 | _,_,_+1,.nil=>.nil
 | _,_,n+1,.cons r t=>.cons r (Vals.take n t)
theorem Vals.drop:∀{xs:List V}{us:List Value} (n:Nat),Vals xs us→Vals (xs.drop n) (us.drop n)
 | _,_,0,r=>r
 | _,_,_+1,.nil=>.nil
 | _,_,n+1,.cons _ t=>Vals.drop n t
def RelO:Option V→Option Value→Prop
 | some v,some u=>RelV v u
 | none,none=>True
 | _,_=>False
def KV {κ:Type}:List (κ×V)→List (κ×Value)→Prop:=Paired fun(p:κ×V) (q:κ×Value)=>p.1=q.1∧RelV p.2 q.2
def kV:Key→V
 | .inl i=>.int i
 | .inr x=>.str x
inductive HO where
 /-- a list -/
 | lst (xs:List V)
 /-- a tuple (never changes) -/
 | tup (xs:List V)
 /-- a dict whose keys are ints and texts; one whose keys are tuples of ints and texts (the empty one is both) -/
 | dK (kvs:List (Key×V))|dT (kvs:List (List Key×V))
 /-- a set of ints: its members, its size -/
 | set (S:Int→Bool) (n:Nat)
 /-- an instance of the class at C, its dict at dx, its attributes -/
 | ins (C dx:Addr) (fs:List (Str×V))
 /-- the dict of the instance at x -/
 | own (x:Addr)
 /-- the dict of an exception -/
 | xd (fs:List (Str×V))
 /-- a bound method, f of x -/
 | met (f x:Addr)
 /-- a range object lo, lo + 1, .. below hi -/
 | rng (lo hi:Int)
 /-- a thing that is known to the object (the script; a dict while a loop walks it): read, never written while it is so -/
 | frz (o:Obj) (u:HO)
 /-- a code object's table -/
 | tbl (ps:Array Value)
 /-- any other thing, by what is true of its one object (a def of one's own: SetO a S n := HO.ext fun h => ..) -/
 | ext (φ:Heap→Prop)
abbrev Hp:=Addr→Option HO
def upd (H:Hp)(a:Addr)(o:HO):Hp:=fun b=>if b=a then some o else H b
theorem yg {H:Hp}{a:Addr}{o:HO}:upd H a o a=some o:=by unfold upd;rw[if_pos rfl]
theorem zU {H:Hp}{a b:Addr}{o:HO}(h:b≠a):upd H a o b=H b:=by unfold upd;rw[if_neg h]
theorem yM {H:Hp}{a b:Addr}{o:HO}(h:H a=some o)(h':H b=none):a≠b:=by
 intro e;subst e;rw[h] at h';cases h'
def TupD (h:Heap)(a:Addr)(items:Array Value):Prop:=∃o,h.get? a=some o∧o.cls=.type "tuple" ∧ (∃n,o.data=.seq items n)∧o.dict=none
theorem TupD.tup {h:Heap}{a:Addr}{items:Array Value}(x:TupD h a items):IsTup h a items:=let ⟨o,e,c,d,_⟩:=x;⟨o,e,c,d⟩
theorem TupD.new (h:Heap)(items:Array Value):TupD (h.push {cls:=.type "tuple", data:=.seq items}) h.objs.size items:=⟨_,Heap.get?_push_size _ rfl,rfl,⟨_,rfl⟩,rfl⟩
section
variable (P:Program)(w:World)
def ObjOk (H:Hp)(h:Heap)(a:Addr):HO→Prop
 | .lst xs=>xs.length≤sizeLine∧∃(its:List Value) (n:Nat),Vals xs its∧h.get? a=some {cls:=.type "list", data:=.seq its.toArray n}
 | .tup xs=>xs.length≤sizeLine∧∃its:List Value,Vals xs its∧TupD h a its.toArray
 | .dK kvs=>kvs.length≤sizeLine∧(a == sysModules)=false∧∃vs,KV kvs vs∧h.DictOf (ux P w) a vs
 | .dT kvs=>kvs.length≤sizeLine∧(a == sysModules)=false∧∃xs:List (List Key×Addr×Value),
   Paired (fun(p:List Key×V) (q:List Key×Addr×Value)=>p.1=q.1∧H q.2.1=some (.tup (p.1.map kV))∧RelV p.2 q.2.2) kvs xs ∧
   ∃o es ep,h.get? a=some o∧o.ExactDict∧o.data=.dict es ep∧es.toList=xs.map (entryOfKey (tupleKind (ux P w)))∧(xs.map (·.1)).Nodup
 | .set S n=>h.SetOf (intKind P w) a S n
 | .ins C dx fs=>H dx=some (.own a)∧fs.length≤1000∧dx≠a∧h.get? a=some (PySem.W.instObj C dx) ∧
   ∃mA,h.Ns1 dx mA∧(∀f,RelO (fs.lookup f) (mA f))∧PySem.Within mA (fs.map (·.1))
 | .own _=>∃o,h.get? a=some o
 | .xd fs=>∃mA,h.Ns1 a mA∧∀f,RelO (fs.lookup f) (mA f)
 | .rng lo hi=>∃t u v,h.get? a=some {cls:=.type "range", data:=.fields #[.int lo t,.int hi u,.int 1 v]}
 | .frz o u=>h.get? a=some o∧ObjOk H h a u
 | .tbl ps=>h.get? a=some {cls:=.none,data:=.fields ps}
 | .met f x=>h.get? a=some (PySem.W.methodObj (.ref f) (.ref x))
 | .ext φ=>φ h∧(∃o,h.get? a=some o)∧∀h1 h2:Heap,φ h1→(∀o,h1.get? a=some o→h2.get? a=some o)→φ h2
def HOk (H:Hp)(h:Heap):Prop:=∀a o,H a=some o→ObjOk P w H h a o
end
section
variable {P:Program}{w:World}{H H':Hp}{h h':Heap}{a:Addr}{o:HO}
theorem ObjOk.lt (x:ObjOk P w H h a o):a<h.objs.size:=by
 cases o with
 | lst xs=>obtain⟨_,_,_,_,e⟩:=x;exact Heap.lt_size e
 | tup xs=>obtain⟨_,_,_,p⟩:=x;exact p.tup.lt
 | dK kvs=>obtain⟨_,_,_,_,o,_,_,e,_⟩:=x;exact Heap.lt_size e
 | dT kvs=>obtain⟨_,_,_,_,o,_,_,e,_⟩:=x;exact Heap.lt_size e
 | set S n=>obtain⟨o,_,_,_,e,_⟩:=x;exact Heap.lt_size e
 | ins C dx fs=>obtain⟨_,_,_,e,_⟩:=x;exact Heap.lt_size e
 | own y=>obtain⟨_,e⟩:=x;exact Heap.lt_size e
 | xd fs=>obtain⟨_,⟨_,_,_,e,_⟩,_⟩:=x;exact Heap.lt_size e
 | rng lo hi=>obtain⟨_,_,_,e⟩:=x;exact Heap.lt_size e
 | frz ob u=>obtain⟨e,_⟩:=x;exact Heap.lt_size e
 | tbl ps=>exact Heap.lt_size (show h.get? a=some _ from x)
 | met f y=>exact Heap.lt_size (show h.get? a=some _ from x)
 | ext φ=>obtain⟨_,⟨_,e⟩,_⟩:=x;exact Heap.lt_size e
theorem Paired.mapP {α β:Type}{F G:α→β→Prop}:∀{l₁:List α}{l₂:List β},Paired F l₁ l₂→(∀a b,F a b→G a b)→Paired G l₁ l₂
 | _,_,.nil,_=>.nil
 | _,_,.cons r t,f=>.cons (f _ _ r) (Paired.mapP t f)
theorem ObjOk.stay (x:ObjOk P w H h a o)(k:∀b u,(b=a∨H b=some (.own a))→h.get? b=some u→h'.get? b=some u)
  (ho:∀b,H b=some (.own a)→H' b=some (.own a)) (ht:∀b xs,H b=some (.tup xs)→H' b=some (.tup xs)):ObjOk P w H' h' a o:=by
 induction o with
 | lst xs=>obtain⟨z,its,n,r,e⟩:=x;exact⟨z,its,n,r,k _ _ (.inl rfl) e⟩
 | tup xs=>obtain⟨z,its,r,ob,e,c⟩:=x;exact⟨z,its,r,ob,k _ _ (.inl rfl) e,c⟩
 | dK kvs=>obtain⟨z,y,vs,r,ob,es,ep,e,c⟩:=x;exact⟨z,y,vs,r,ob,es,ep,k _ _ (.inl rfl) e,c⟩
 | dT kvs =>
  obtain⟨z,y,xs,r,ob,es,ep,e,c⟩:=x
  exact⟨z,y,xs,Paired.mapP r fun p q z=>⟨z.1,ht _ _ z.2.1,z.2.2⟩,ob,es,ep,k _ _ (.inl rfl) e,c⟩
 | set S n=>obtain⟨ob,es,ep,t,e,c⟩:=x;exact⟨ob,es,ep,t,k _ _ (.inl rfl) e,c⟩
 | ins C dx fs =>
  obtain⟨d,z,ne,e,mA,⟨od,es,ep,e2,c⟩,r⟩:=x
  exact⟨ho _ d,z,ne,k _ _ (.inl rfl) e,mA,⟨od,es,ep,k _ _ (.inr d) e2,c⟩,r⟩
 | own y=>obtain⟨ob,e⟩:=x;exact⟨ob,k _ _ (.inl rfl) e⟩
 | xd fs=>obtain⟨mA,⟨od,es,ep,e,c⟩,r⟩:=x;exact⟨mA,⟨od,es,ep,k _ _ (.inl rfl) e,c⟩,r⟩
 | rng lo hi=>obtain⟨t,u,v,e⟩:=x;exact⟨t,u,v,k _ _ (.inl rfl) e⟩
 | frz ob u ih=>obtain⟨e,q⟩:=x;exact⟨k _ _ (.inl rfl) e,ih q⟩
 | tbl ps =>
  have e:h.get? a=some {cls:=.none,data:=.fields ps}:=x
  show h'.get? a=some {cls:=.none,data:=.fields ps}
  exact k a _ (.inl rfl) e
 | met f y =>
  have e:h.get? a=some (PySem.W.methodObj (.ref f) (.ref y)):=x
  show h'.get? a=some (PySem.W.methodObj (.ref f) (.ref y))
  exact k a _ (.inl rfl) e
 | ext φ=>obtain⟨p,⟨o,e⟩,st⟩:=x;exact⟨st _ _ p fun o q=>k _ _ (.inl rfl) q,⟨o,k _ _ (.inl rfl) e⟩,st⟩
theorem HOk.lt (x:HOk P w H h)(e:H a=some o):a<h.objs.size:=(x a o e).lt
theorem HOk.fresh (x:HOk P w H h)(e:h.objs.size≤a):H a=none:=by
 cases q:H a with
 | none=>rfl
 | some u=>exact absurd (Nat.lt_of_lt_of_le (x.lt q) e) (Nat.lt_irrefl _)
theorem HOk.kept (x:HOk P w H h)(k:∀b u,h.get? b=some u→h'.get? b=some u):HOk P w H h':=fun a o e =>
 (x a o e).stay (fun b u _ q=>k b u q) (fun _ q=>q) fun _ _ q=>q
theorem HOk.laid (x:HOk P w H h)(k:∀b u,h.get? b=some u→h'.get? b=some u)(hp:h.objs.size≤a)(new:ObjOk P w (upd H a o) h' a o):HOk P w (upd H a o) h':=fun b u e=>by
 have hn:=x.fresh hp
 by_cases hb:b=a
 ·subst hb;rw[yg] at e;cases e;exact new
 ·rw[zU hb] at e
  exact(x b u e).stay (fun c v _ q=>k c v q) (fun c q=>by rw[zU (yM q hn)];exact q) fun c xs q=>by rw[zU (yM q hn)];exact q
end
def Rd (H:Hp)(a:Addr)(u:HO):Prop:=H a=some u∨∃o,H a=some (.frz o u)
theorem Rd.ok {P:Program}{w:World}{H:Hp}{h:Heap}{a:Addr}{u:HO}(r:Rd H a u)(x:HOk P w H h):ObjOk P w H h a u:=by
 rcases r with r|⟨o,r⟩
 ·exact x a u r
 ·obtain⟨_,q⟩:=x a _ r
  exact q
def Mut:Option HO→Prop
 | some (.lst _)=>True
 | some (.dK _)=>True
 | some (.dT _)=>True
 | some (.set _ _)=>True
 | some (.ins _ _ _)=>True
 | some (.ext _)=>True
 | _=>False
section
variable {P:Program}{w:World}{H:Hp}{h h':Heap}{x e:Addr}{o':HO}
theorem HOk.write (ok:HOk P w H h)(mu:Mut (H x))(he:e=x∨H e=some (.own x))(k:∀b u,b≠e→h.get? b=some u→h'.get? b=some u)(heo:∃u,h'.get? e=some u)
  (new:ObjOk P w (upd H x o') h' x o'):HOk P w (upd H x o') h':=fun b u q=>by
 have nown:∀c y,H c=some (.own y)→c≠x:=fun c y r z=>by subst z;rw[r] at mu;exact mu
 have ntup:∀c xs,H c=some (.tup xs)→c≠x:=fun c xs r z=>by subst z;rw[r] at mu;exact mu
 by_cases hb:b=x
 ·subst hb;rw[yg] at q;cases q;exact new
 ·rw [zU hb] at q
  by_cases hbe:b=e
  ·have q':H b=some (.own x):=by
    rcases he with z|z
    ·exact absurd (hbe.trans z) hb
    ·rw[hbe];exact z
   rw[q] at q';cases q'
   obtain⟨v,hv⟩:=heo
   exact⟨v,by rw[hbe];exact hv⟩
  ·refine (ok b u q).stay (fun c v hc r=>k c v ?_ r) (fun c r=>by rw[zU (nown c b r)];exact r) fun c xs r=>by rw[zU (ntup c xs r)];exact r
   rcases hc with rfl|hc
   ·exact hbe
   ·rintro rfl
    rcases he with z|z
    ·exact nown c b hc z
    ·rw[hc] at z;cases z;exact hb rfl
end
structure Un (fs ex:List Addr)(H H':Hp)(h h':Heap):Prop where
 keep:∀b o,h.get? b=some o→H b=none→b∉fs→b∉ex→h'.get? b=some o
 slot:∀b o,h.get? b=some o→H b=none→b∈fs→b∉ex→∃sl,h'.get? b=some {o with slots:=sl}
 free:∀b o,h.get? b=some o→H b=none→b∉ex→H' b=none
 there:∀b o,h.get? b=some o→b∉ex→∃o',h'.get? b=some o'
 tups:∀b xs,H b=some (.tup xs)→H' b=some (.tup xs)
 frzs:∀b o u,H b=some (.frz o u)→H' b=some (.frz o u)
 tbls:∀b ps,H b=some (.tbl ps)→∃more,H' b=some (.tbl (ps++more))
section
variable {fs fs' ex ex':List Addr}{H H1 H2:Hp}{h h1 h2 h':Heap}{a x e:Addr}{o:HO}
theorem Un.any (u:Un fs ex H H1 h h1){b:Addr}{ob:Obj}(q:h.get? b=some ob)(n:H b=none)(hx:b∉ex):∃sl,h1.get? b=some {ob with slots:=sl}:=by
 by_cases hb:b∈fs
 ·exact u.slot b ob q n hb hx
 ·exact⟨ob.slots,u.keep b ob q n hb hx⟩
theorem Un.trans (a:Un fs ex H H1 h h1)(b:Un fs ex H1 H2 h1 h2):Un fs ex H H2 h h2 where
 keep:=fun c ob q n hc hx=>b.keep c ob (a.keep c ob q n hc hx) (a.free c ob q n hx) hc hx
 slot:=fun c ob q n hc hx=>by
  obtain⟨sl,e1⟩:=a.slot c ob q n hc hx
  obtain⟨sl',e2⟩:=b.slot c _ e1 (a.free c ob q n hx) hc hx
  exact⟨sl',e2⟩
 free:=fun c ob q n hx=>by
  obtain⟨o',e1⟩:=a.there c ob q hx
  exact b.free c o' e1 (a.free c ob q n hx) hx
 there:=fun c ob q hx=>by
  obtain⟨o',e1⟩:=a.there c ob q hx
  exact b.there c o' e1 hx
 tups:=fun c xs q=>b.tups c xs (a.tups c xs q)
 frzs:=fun c ob xs q=>b.frzs c ob xs (a.frzs c ob xs q)
 tbls:=fun c ps q=>by
  obtain⟨m1,e1⟩:=a.tbls c ps q
  obtain⟨m2,e2⟩:=b.tbls c _ e1
  exact⟨m1++m2,by rw[e2,Array.append_assoc]⟩
theorem Un.kept (k:∀b u,h.get? b=some u→h'.get? b=some u):Un fs ex H H h h' :=
 ⟨fun b ob q _ _ _=>k b ob q,fun b ob q _ _ _=>⟨ob.slots,k b ob q⟩,fun _ _ _ n _=>n,fun b ob q _=>⟨ob,k b ob q⟩,fun _ _ q=>q,fun _ _ _ q=>q,fun _ ps q=>⟨#[],by rw[q];simp⟩⟩
theorem Un.refl:Un fs ex H H h h:=Un.kept fun _ _ q=>q
theorem Un.laid (k:∀b u,h.get? b=some u→h'.get? b=some u)(hp:h.objs.size≤a)(hn:H a=none):Un fs ex H (upd H a o) h h' where
 keep:=fun b u q _ _ _=>k b u q
 slot:=fun b u q _ _ _=>⟨u.slots,k b u q⟩
 free:=fun b u q n _=>by rw[zU (Nat.ne_of_lt (Nat.lt_of_lt_of_le (Heap.lt_size q) hp))];exact n
 there:=fun b u q _=>⟨u,k b u q⟩
 tups:=fun b xs q=>by rw[zU (yM q hn)];exact q
 frzs:=fun b u xs q=>by rw[zU (yM q hn)];exact q
 tbls:=fun b ps q=>⟨#[],by rw[zU (yM q hn),q];simp⟩
theorem Un.write (mu:Mut (H x))(he:e=x∨H e=some (.own x))(k:∀b u,b≠e→h.get? b=some u→h'.get? b=some u)(heo:∃u,h'.get? e=some u):Un fs ex H (upd H x o) h h':=by
 have hx:∀b,H b=none→b≠x:=fun b n z=>by subst z;rw[n] at mu;exact mu
 have hb:∀b,H b=none→b≠e:=fun b n z=>by
  subst z
  rcases he with r|r
  ·exact hx b n r
  ·rw[n] at r;cases r
 have hm:∀b u,H b=some u→¬Mut (some u)→b≠x:=fun b u q nm z=>by subst z;rw[q] at mu;exact nm mu
 refine ⟨fun b u q n _ _=>k b u (hb b n) q,fun b u q n _ _=>⟨u.slots,k b u (hb b n) q⟩,fun b u q n _=>by rw[zU (hx b n)];exact n,fun b u q _=>?_,
  fun b xs q=>by rw[zU (hm b _ q fun z=>z)];exact q,fun b u xs q=>by rw[zU (hm b _ q fun z=>z)];exact q,fun b ps q=>⟨#[],by rw[zU (hm b _ q fun z=>z),q];simp⟩⟩
 by_cases hbe:b=e
 ·subst hbe;exact heo
 ·exact⟨u,k b u hbe q⟩
theorem Un.mono (u:Un fs ex H H1 h h1)(hs:∀b∈fs,b∈fs')(hx:∀b∈ex,b∈ex'):Un fs' ex' H H1 h h1 :=
 ⟨fun b ob q n hb he=>u.keep b ob q n (fun z=>hb (hs b z)) fun z=>he (hx b z),fun _ _ q n _ he=>u.any q n fun z=>he (hx _ z),fun b ob q n he=>u.free b ob q n fun z=>he (hx b z),fun b ob q he=>u.there b ob q fun z=>he (hx b z),u.tups,u.frzs,u.tbls⟩
end
def trk (h:Heap)(H:Hp):List Addr:=(List.range h.objs.size).filter fun a=>(H a).isSome
def zii (h:Heap)(H:Hp):Heap:=PySem.W.hideAll h (trk h H)
theorem zg4 (h:Heap)(H:Hp):(zii h H).objs.size=h.objs.size:=PySem.W.hideAll_size _ _
theorem zhW {h:Heap}{H:Hp}{b:Addr}{o:Obj}(e:h.get? b=some o)(n:H b=none):(zii h H).get? b=some o :=
 PySem.W.hideAll_get _ e fun hm=>by
  have q:(H b).isSome=true:=(List.mem_filter.mp hm).2
  rw[n] at q;simp at q
theorem zj8 {h:Heap}{H:Hp}{b:Addr}{o:Obj}(e:(zii h H).get? b=some o):h.get? b=some o∧H b=none:=by
 have e':h.get? b=some o:=PySem.W.of_hideAll (trk h H) e
 refine⟨e',?_⟩
 cases q:H b with
 | none=>rfl
 | some x =>
  have hm:b∈trk h H:=List.mem_filter.mpr ⟨List.mem_range.mpr (Heap.lt_size e'),by simp[q]⟩
  have z:(zii h H).get? b=none:=PySem.W.hideAll_none (trk h H) hm
  rw[z] at e;cases e
def zjd (g h:Heap)(L:Addr):List (Addr×Obj):=(List.range h.objs.size).filterMap fun a=>if a=L∨(g.get? a).isSome=true then none else(h.get? a).map fun o=>(a,o)
def rest (g h:Heap)(L d:Addr):List (Addr×Obj):=(zjd g h L).filter fun p=>decide (p.1≠d)
end L2
namespace L2
open PySem PySem.Spec PyProof.Rows
structure Mod (K:PySem.W.Frag)(mg:Str→Option Value)(base:Heap):Prop where
 kin:K.In base
 glob:base.Ns mainGlobals mg
 blt:∃mb,base.Ns builtinsNs mb∧∀x:Str,x ≠ "__name__" → mb x=bootBuiltins x
 nolimit:base.NoLimit
structure Cx where
 prog:Program
 w:World
 K:PySem.W.Frag
 mg:Str→Option Value
 base:Heap
 A:Around
 N:List Str
 s₀:Shared
 H₀:Hp
 env:Env
 outer:List Env
 stack:List Env
 ex:List Addr
 fn:Str→Bool
 calm:Bool
 pn:List (Addr×Obj)
 xe:Value→Shared→Prop
def frs (l:List Env):List Addr:=l.filterMap (·.frame)
abbrev Cx.fs (X:Cx):List Addr:=frs X.outer
def Vis (sc:Scope)(x:Str):Prop:=sc.names.lookup x=some .local∨sc.names.lookup x=some .cell∨sc.names.lookup x=some .free
def Loc (sc:Scope)(x:Str):Prop:=sc.names.lookup x=some .local∨sc.names.lookup x=some .cell
def Look (env:Env)(h:Heap)(m:Str→Option Value)(x:Str)(u:Value):Prop :=
 (env.kindOf x=some .local∧m x=some u)∨((env.kindOf x=some .cell∨env.kindOf x=some .free)∧∃c,env.cells.lookup x=some c∧h.IsCell c (some u))
structure Cx.Ok (X:Cx):Prop where
 mod:Mod X.K X.mg X.base
 kind:X.env.scope.kind=.function
 glob:X.env.globals=mainGlobals
 blt:X.env.builtins=builtinsNs
 above:X.s₀.heap.objs.size≤X.env.locals
 inj:∀x y c,X.env.cells.lookup x=some c→X.env.cells.lookup y=some c→x=y
 has:∀x,(X.env.kindOf x=some .cell∨X.env.kindOf x=some .free)→∃c,X.env.cells.lookup x=some c
 cab:∀x c,X.fn x=true→X.env.cells.lookup x=some c→X.s₀.heap.objs.size≤c
 hd:X.calm=true→X.A.handled=none
 frames:X.A.frames=some X.stack
 stk:X.stack=X.outer∨(X.stack=X.env::X.outer∧X.env.frame=some X.env.locals)
 exf:∀b∈X.ex,b≠X.env.locals∧∀x c,X.env.cells.lookup x=some c→c≠b
 bs:∀b o,X.base.get? b=some o→X.s₀.heap.get? b=some o∧X.H₀ b=none
 bsz:X.base.objs.size≤X.s₀.heap.objs.size
 noex:∀b o,X.base.get? b=some o→b∉X.ex
 exfs:∀b∈X.ex,b∉X.fs
 funs:X.s₀.heap.FunFrames X.base X.outer
 frf:∀b∈X.fs,X.H₀ b=none
structure Inv (X:Cx)(pins:List (Addr×Obj))(σ:List (Option V))(H:Hp)(s:Shared):Prop where
 ok:X.Ok
 os:s.os=X.s₀.os
 bare:AllBare s.gens
 base:Un X.fs X.ex X.H₀ H X.s₀.heap s.heap
 loc:∃m,s.heap.Ns X.env.locals m∧∀(i:Nat) (x:Str) (v:V),X.N[i]? = some x→σ[i]? = some (some v)→Vis X.env.scope x→∃u,RelV v u∧Look X.env s.heap m x u
 cell:∀x c,X.env.cells.lookup x=some c→∃v,s.heap.IsCell c v
 free:H X.env.locals=none
 freeC:∀x c,X.env.cells.lookup x=some c→H c=none
 pin:∀p∈X.pn++pins,s.heap.get? p.1=some p.2∧H p.1=none∧p.1≠X.env.locals∧p.1∉X.fs∧∀v,p.2.data≠.cell v
 hok:HOk X.prog X.w H s.heap
 len:σ.length=X.N.length
section
variable {X:Cx}{pins:List (Addr×Obj)}{σ:List (Option V)}{H H':Hp}{s:Shared}{h':Heap}
theorem Cx.Ok.nofr (ok:X.Ok){b:Addr}{o:Obj}(e:X.base.get? b=some o):b∉X.fs:=fun hb=>by
 have:=(ok.funs.mem hb).1
 rw[e] at this;cases this
theorem Inv.bs (I:Inv X pins σ H s):∀b o,X.base.get? b=some o→s.heap.get? b=some o∧H b=none:=fun b o e =>
 ⟨I.base.keep b o (I.ok.bs b o e).1 (I.ok.bs b o e).2 (I.ok.nofr e) (I.ok.noex b o e),I.base.free b o (I.ok.bs b o e).1 (I.ok.bs b o e).2 (I.ok.noex b o e)⟩
theorem Inv.bk (I:Inv X pins σ H s):∀b o,X.base.get? b=some o→s.heap.get? b=some o:=fun b o e=>(I.bs b o e).1
theorem Inv.mod (I:Inv X pins σ H s):Mod X.K X.mg X.base:=I.ok.mod
theorem Inv.kIn (I:Inv X pins σ H s):X.K.In s.heap:=I.ok.mod.kin.keeps I.bk
theorem Inv.lt (I:Inv X pins σ H s):X.env.locals<s.heap.objs.size:=let ⟨_,hn,_⟩:=I.loc;hn.lt
theorem Inv.sz (I:Inv X pins σ H s):X.s₀.heap.objs.size≤s.heap.objs.size:=Nat.le_trans I.ok.above (Nat.le_of_lt I.lt)
theorem Inv.nofs (I:Inv X pins σ H s){a:Addr}(h:s.heap.objs.size≤a):a∉X.fs:=fun hb=>by
 obtain⟨_,o,ho,_⟩:=I.ok.funs.mem hb
 exact absurd (Nat.lt_of_lt_of_le (Heap.lt_size ho) (Nat.le_trans I.sz h)) (Nat.lt_irrefl _)
theorem Inv.cne (I:Inv X pins σ H s):∀x c,X.env.cells.lookup x=some c→c≠X.env.locals:=fun x c e z=>by
 obtain⟨v,o,ho,hd⟩:=I.cell x c e
 obtain⟨m,⟨o',es,ep,ho',hd',_⟩,_⟩:=I.loc
 rw[z,ho'] at ho;cases ho;rw[hd'] at hd;cases hd
theorem Inv.funs (I:Inv X pins σ H s):s.heap.FunFrames X.base X.outer:=by
 have all:∀(l:List Env),(∀b∈frs l,b∈X.fs)→X.s₀.heap.FunFrames X.base l→s.heap.FunFrames X.base l:=by
  intro l
  induction l with
  | nil=>intro _ _;trivial
  | cons env r ih =>
   intro hs hl
   obtain⟨hk,⟨L,o,hf,hn,ho,hd⟩,hr⟩:=hl
   have hL:L∈X.fs:=hs L (by unfold frs;rw[List.filterMap_cons,hf];exact List.mem_cons_self)
   obtain⟨sl,e⟩:=I.base.slot L o ho (I.ok.frf L hL) hL fun z=>I.ok.exfs L z hL
   exact⟨hk,⟨L,_,hf,hn,e,hd⟩,ih (fun b hb=>hs b (by unfold frs;rw[List.filterMap_cons,hf];exact List.mem_cons_of_mem _ hb)) hr⟩
 exact all X.outer (fun _ hb=>hb) I.ok.funs
theorem Inv.stack (I:Inv X pins σ H s):s.heap.FunFrames X.base X.stack:=by
 rcases I.ok.stk with e|⟨e,hf⟩
 ·rw[e];exact I.funs
 ·rw[e]
  obtain⟨m,hn,_⟩:=I.loc
  refine .cons (by rw[I.ok.kind];decide) hf hn ?_ I.funs
  exact Heap.get?_none_of_le (Nat.le_trans I.ok.bsz I.ok.above)
theorem Inv.stkSub (I:Inv X pins σ H s):∀b∈frs X.stack,b∈X.env.locals::X.fs:=fun b hb=>by
 rcases I.ok.stk with e|⟨e,hf⟩
 ·rw[e] at hb;exact List.mem_cons_of_mem _ hb
 ·rw[e] at hb
  unfold frs at hb
  rw[List.filterMap_cons,hf] at hb
  exact hb
theorem Inv.stkFree (I:Inv X pins σ H s):∀b∈frs X.stack,H b=none:=fun b hb=>by
 rcases List.mem_cons.mp (I.stkSub b hb) with e|hb
 ·rw[e];exact I.free
 ·obtain⟨_,o,ho,_⟩:=I.ok.funs.mem hb
  exact I.base.free b o ho (I.ok.frf b hb) fun z=>I.ok.exfs b z hb
theorem Inv.step {g':Array GenState}{t':Nat}{d':Drawn}{ch:List Addr}(I:Inv X pins σ H s)
  (hch:∀b∈ch,(b∈X.ex∨X.s₀.heap.objs.size≤b)∧b≠X.env.locals∧(∀x c,X.env.cells.lookup x=some c→c≠b)∧∀p∈X.pn++pins,p.1≠b)
  (keep:∀b o,b≠X.env.locals→b∉X.fs→b∉ch→s.heap.get? b=some o→H b=none→h'.get? b=some o)
  (slot:∀b o,b≠X.env.locals→b∈X.fs→b∉ch→s.heap.get? b=some o→H b=none→∃sl,h'.get? b=some {o with slots:=sl}) (free:∀b o,b∉ch→s.heap.get? b=some o→H b=none→H' b=none)
  (there:∀b o,b∉ch→s.heap.get? b=some o→∃o',h'.get? b=some o')
  (tups:∀b xs,H b=some (.tup xs)→H' b=some (.tup xs)) (frzs:∀b o u,H b=some (.frz o u)→H' b=some (.frz o u)) (tbls:∀b ps,H b=some (.tbl ps)→∃more,H' b=some (.tbl (ps++more)))
  (ns:∀m,s.heap.Ns X.env.locals m→h'.Ns X.env.locals m) (hok:HOk X.prog X.w H' h') (hg:AllBare g') :
  Inv X pins σ H' {s with heap:=h',gens:=g',drawn:=d',toks:=t'}:=by
 have neL:∀b o,X.s₀.heap.get? b=some o→b≠X.env.locals:=fun b o e=>Nat.ne_of_lt (Nat.lt_of_lt_of_le (Heap.lt_size e) I.ok.above)
 have neC:∀b o,X.s₀.heap.get? b=some o→b∉X.ex→b∉ch:=fun b o e hx hb=>by
  rcases(hch b hb).1 with z|z
  ·exact hx z
  ·exact absurd (Nat.lt_of_lt_of_le (Heap.lt_size e) z) (Nat.lt_irrefl _)
 have cellK:∀x c,X.env.cells.lookup x=some c→∀v,s.heap.IsCell c v→h'.IsCell c v:=fun x c e v ⟨o,ho,hd⟩=>by
  have nch:c∉ch:=fun z=>(hch c z).2.2.1 x c e rfl
  by_cases hc:c∈X.fs
  ·obtain⟨sl,q⟩:=slot c o (I.cne x c e) hc nch ho (I.freeC x c e)
   exact⟨_,q,hd⟩
  ·exact⟨o,keep c o (I.cne x c e) hc nch ho (I.freeC x c e),hd⟩
 refine⟨I.ok,I.os,hg,⟨fun b o e n hb hx=>?_,fun b o e n hb hx=>?_,fun b o e n hx=>?_,fun b o e hx=>?_,fun b xs e=>tups b xs (I.base.tups b xs e),fun b o xs e=>frzs b o xs (I.base.frzs b o xs e),fun b ps e=>?_⟩,?_,fun x c e=>?_,?_,fun x c e=>?_,fun p hp=>?_,hok,I.len⟩
 ·exact keep b o (neL b o e) hb (neC b o e hx) (I.base.keep b o e n hb hx) (I.base.free b o e n hx)
 ·obtain⟨sl,e1⟩:=I.base.slot b o e n hb hx
  obtain⟨sl',e2⟩:=slot b _ (neL b o e) hb (neC b o e hx) e1 (I.base.free b o e n hx)
  exact⟨sl',e2⟩
 ·obtain⟨o',e1⟩:=I.base.there b o e hx
  exact free b o' (neC b o e hx) e1 (I.base.free b o e n hx)
 ·obtain⟨o',e1⟩:=I.base.there b o e hx
  exact there b o' (neC b o e hx) e1
 ·obtain⟨m1,e1⟩:=I.base.tbls b ps e
  obtain⟨m2,e2⟩:=tbls b _ e1
  exact⟨m1++m2,by rw[e2,Array.append_assoc]⟩
 ·obtain⟨m,hn,hl⟩:=I.loc
  refine⟨m,ns m hn,fun i x v e1 e2 e3=>?_⟩
  obtain⟨u,r,l⟩:=hl i x v e1 e2 e3
  refine⟨u,r,?_⟩
  rcases l with l|⟨k,c,e,z⟩
  ·exact .inl l
  ·exact .inr ⟨k,c,e,cellK x c e _ z⟩
 ·obtain⟨v,z⟩:=I.cell x c e
  exact⟨v,cellK x c e v z⟩
 ·obtain⟨m,⟨o,_,_,ho,_⟩,_⟩:=I.loc
  exact free _ o (fun z=>(hch _ z).2.1 rfl) ho I.free
 ·obtain⟨v,o,ho,hd⟩:=I.cell x c e
  exact free c o (fun z=>(hch c z).2.2.1 x c e rfl) ho (I.freeC x c e)
 ·obtain⟨e,n,ne,nf,d⟩:=I.pin p hp
  have nch:p.1∉ch:=fun z=>(hch p.1 z).2.2.2 p hp rfl
  exact⟨keep p.1 p.2 ne nf nch e n,free p.1 p.2 nch e n,ne,nf,d⟩
theorem Inv.un {t':Nat}(I:Inv X pins σ H s)(u:Un X.fs [] H H' s.heap h')(hok:HOk X.prog X.w H' h'):Inv X pins σ H' {s with heap:=h',toks:=t'}:=by
 obtain⟨m,⟨o,es,ep,ho,r⟩,_⟩:=id I.loc
 obtain⟨sl,hL⟩:=u.any ho I.free (by simp)
 exact I.step (g':=s.gens) (d':=s.drawn) (ch:=[]) (fun _ z=>nomatch z) (fun b o _ hb _ e n=>u.keep b o e n hb (by simp)) (fun b o _ hb _ e n=>u.slot b o e n hb (by simp)) (fun b o _ e n=>u.free b o e n (by simp)) (fun b o _ e=>u.there b o e (by simp)) u.tups u.frzs u.tbls (fun m' hm=>by
  obtain⟨o',es',ep',ho',r'⟩:=hm
  rw[ho] at ho';cases ho'
  exact⟨_,es',ep',hL,r'⟩) hok I.bare
theorem Inv.call {g':Array GenState}{t':Nat}{d':Drawn}{ch:List Addr}(I:Inv X pins σ H s)(u:Un (frs X.stack) ch H H' s.heap h')(hok:HOk X.prog X.w H' h')(hg:AllBare g')
  (hch:∀b∈ch,(b∈X.ex∨X.s₀.heap.objs.size≤b)∧b≠X.env.locals∧(∀x c,X.env.cells.lookup x=some c→c≠b)∧∀p∈X.pn++pins,p.1≠b) :
  Inv X pins σ H' {s with heap:=h',gens:=g',drawn:=d',toks:=t'}:=by
 obtain⟨m,⟨o,es,ep,ho,r⟩,_⟩:=id I.loc
 obtain⟨sl,hL⟩:=u.any ho I.free fun z=>(hch _ z).2.1 rfl
 exact I.step (ch:=ch) hch (fun b o hL hb hc e n=>u.keep b o e n (fun z=>(List.mem_cons.mp (I.stkSub b z)).elim hL hb) hc) (fun b o _ _ hc e n=>u.any e n hc) (fun b o hc e n=>u.free b o e n hc) (fun b o hc e=>u.there b o e hc) u.tups u.frzs u.tbls (fun m' hm=>by
  obtain⟨o',es',ep',ho',r'⟩:=hm
  rw[ho] at ho';cases ho'
  exact⟨_,es',ep',hL,r'⟩) hok hg
theorem Inv.turned {t':Nat}{it:Addr}(I:Inv X pins σ H s)(k:∀b o,b≠it→s.heap.get? b=some o→h'.get? b=some o)(hn:H it=none)(hL:it≠X.env.locals)
  (h1:it∈X.ex∨X.s₀.heap.objs.size≤it) (h2:∀x c,X.env.cells.lookup x=some c→c≠it) (h3:∀p∈X.pn++pins,p.1≠it):Inv X pins σ H {s with heap:=h',toks:=t'}:=by
 have nit:∀b u,H b=some u→b≠it:=fun b u e z=>by rw[z,hn] at e;cases e
 refine I.step (g':=s.gens) (d':=s.drawn) (ch:=[it]) (fun b hb=>?_) (fun b o _ _ hc e _=>k b o (fun z=>hc (by simp[z])) e) (fun b o _ _ hc e _=>⟨o.slots,k b o (fun z=>hc (by simp[z])) e⟩) (fun _ _ _ _ n=>n)
  (fun b o hc e=>⟨o,k b o (fun z=>hc (by simp[z])) e⟩) (fun _ _ e=>e) (fun _ _ _ e=>e) (fun b ps e=>⟨#[],by rw[e];simp⟩) (fun m hm=>?_) (fun b u e=>?_) I.bare
 ·have e:b=it:=by simpa using hb
  subst e
  exact⟨h1,hL,h2,h3⟩
 ·obtain⟨o,es,ep,ho,r⟩:=hm
  exact⟨o,es,ep,k _ o (Ne.symm hL) ho,r⟩
 ·refine(I.hok b u e).stay (fun c v hc q=>k c v ?_ q) (fun _ q=>q) fun _ _ q=>q
  rcases hc with z|z
  ·rw[z];exact nit b u e
  ·exact nit c _ z
theorem Inv.tok (I:Inv X pins σ H s)(t:Nat):Inv X pins σ H {s with toks:=t}:=I.un (h':=s.heap) (t':=t) Un.refl I.hok
theorem Inv.kept {t':Nat}(I:Inv X pins σ H s)(k:∀b u,s.heap.get? b=some u→h'.get? b=some u):Inv X pins σ H {s with heap:=h',toks:=t'}:=I.un (Un.kept k) (I.hok.kept k)
theorem Inv.laid {a:Addr}{o:HO}{t':Nat}(I:Inv X pins σ H s)(k:∀b u,s.heap.get? b=some u→h'.get? b=some u)(hp:s.heap.objs.size≤a)(new:ObjOk X.prog X.w (upd H a o) h' a o) :
  Inv X pins σ (upd H a o) {s with heap:=h',toks:=t'}:=I.un (Un.laid k hp (I.hok.fresh hp)) (I.hok.laid k hp new)
theorem Inv.write {x e:Addr}{o:HO}{t':Nat}(I:Inv X pins σ H s)(mu:Mut (H x))(he:e=x∨H e=some (.own x))(k:∀b u,b≠e→s.heap.get? b=some u→h'.get? b=some u)(heo:∃u,h'.get? e=some u)
  (new:ObjOk X.prog X.w (upd H x o) h' x o):Inv X pins σ (upd H x o) {s with heap:=h',toks:=t'}:=I.un (Un.write mu he k heo) (I.hok.write mu he k heo new)
theorem Inv.weak {σ':List (Option V)}(I:Inv X pins σ H s)(hl:σ'.length=σ.length)(w:∀(i:Nat) v,σ'[i]? = some (some v)→σ[i]? = some (some v)):Inv X pins σ' H s :=
 ⟨I.ok,I.os,I.bare,I.base,let ⟨m,hn,hl'⟩:=I.loc;⟨m,hn,fun i x v e1 e2 e3=>hl' i x v e1 (w i v e2) e3⟩,I.cell,I.free,I.freeC,I.pin,I.hok,hl.trans I.len⟩
theorem Inv.pins_of {pins':List (Addr×Obj)}(I:Inv X pins σ H s)(h:∀p∈pins',s.heap.get? p.1=some p.2∧H p.1=none∧p.1≠X.env.locals∧p.1∉X.fs∧∀v,p.2.data≠.cell v):Inv X pins' σ H s :=
 ⟨I.ok,I.os,I.bare,I.base,I.loc,I.cell,I.free,I.freeC,fun p hp=>(List.mem_append.mp hp).elim (fun z=>I.pin p (List.mem_append_left _ z)) (h p),I.hok,I.len⟩
theorem zeV {N:List Str}(hN:N.Nodup){i j:Nat}{x:Str}(a:N[i]? = some x)(b:N[j]? = some x):i=j:=by
 obtain⟨h1,e1⟩:=List.getElem?_eq_some_iff.mp a
 obtain⟨h2,e2⟩:=List.getElem?_eq_some_iff.mp b
 exact(List.getElem_inj hN).mp (e1.trans e2.symm)
theorem zfY {M:Model}{A:Around}{E:Value→Shared→Prop}{i:Nat}{x:Str}{v:V}{u:Value}{Q:Unit→Shared→Prop}(I:Inv X pins σ H s)(hN:X.N.Nodup)(hi:X.N[i]? = some x)(hx:Loc X.env.scope x)(r:RelV v u)
  (h:∀s',Inv X pins (σ.set i (some v)) H s'→(∃a,Heap.SameBut a s.heap s'.heap∧(a=X.env.locals∨X.env.cells.lookup x=some a))→Q () s') (hf:X.fn x=true∨X.env.scope.names.lookup x=some .local:=by first|exact .inl rfl|exact .inr rfl|assumption):wpAny M A (storeName X.env x u) Q E s:=by
 obtain⟨m,hn,hl⟩:=id I.loc
 have hcls:(X.env.scope.kind == .class || (X.env.scope.kind == .module&&X.env.locals != X.env.globals))=false:=by rw[I.ok.kind];rfl
 have hiσ:i<σ.length:=by rw[I.len];exact(List.getElem?_eq_some_iff.mp hi).1
 have cne:=I.cne
 have tracked:∀{a:Addr}{h':Heap},(∃o,s.heap.get? a=some o∧H a=none)→Heap.SameBut a s.heap h'→HOk X.prog X.w H h':=fun {a h'} ha hs b ob e=>by
  obtain⟨_,_,hfree⟩:=ha
  refine(I.hok b ob e).stay (fun c w' hc q=>(hs.2 c ?_).trans q) (fun _ q=>q) fun _ _ q=>q
  rintro rfl
  rcases hc with rfl|hc
  ·rw[hfree] at e;cases e
  ·rw[hfree] at hc;cases hc
 rcases hx with hk|hk
 ·refine wpAny_storeName_local hk hn (fun h' hn' hs=>?_) hcls
  obtain⟨oL,_,_,hoL,_⟩:=id hn
  refine h _ ⟨I.ok,I.os,I.bare,⟨fun b o e n hb hx=>?_,fun b o e n hb hx=>?_,I.base.free,fun b o e hx=>?_,I.base.tups,I.base.frzs,I.base.tbls⟩,⟨_,hn',fun j y v' e1 e2 e3=>?_⟩,fun y c e=>?_,I.free,I.freeC,fun p hp=>?_,tracked ⟨oL,hoL,I.free⟩ hs,by simpa using I.len⟩ ⟨_,hs,.inl rfl⟩
  ·exact(hs.2 b (Nat.ne_of_lt (Nat.lt_of_lt_of_le (Heap.lt_size e) I.ok.above))).trans (I.base.keep b o e n hb hx)
  ·obtain⟨sl,e1⟩:=I.base.slot b o e n hb hx
   exact⟨sl,(hs.2 b (Nat.ne_of_lt (Nat.lt_of_lt_of_le (Heap.lt_size e) I.ok.above))).trans e1⟩
  ·obtain⟨o',e1⟩:=I.base.there b o e hx
   exact⟨o',(hs.2 b (Nat.ne_of_lt (Nat.lt_of_lt_of_le (Heap.lt_size e) I.ok.above))).trans e1⟩
  ·by_cases hj:j=i
   ·subst hj
    rw[hi] at e1;cases e1
    rw[List.getElem?_set_self hiσ] at e2
    cases e2
    exact⟨u,r,.inl ⟨hk,by simp⟩⟩
   ·rw [List.getElem?_set_ne (Ne.symm hj)] at e2
    obtain⟨u',r',q⟩:=hl j y v' e1 e2 e3
    refine⟨u',r',?_⟩
    rcases q with⟨k,e⟩|⟨k,c,e,z⟩
    ·refine .inl ⟨k,?_⟩
     have:y≠x:=fun e=>hj (zeV hN e1 (e▸hi))
     simp[this,e]
    ·exact .inr ⟨k,c,e,z.sameBut hs (cne y c e)⟩
  ·obtain⟨w',z⟩:=I.cell y c e
   exact⟨w',z.sameBut hs (cne y c e)⟩
  ·obtain⟨e,n,ne,nf,d⟩:=I.pin p hp
   exact⟨(hs.2 p.1 ne).trans e,n,ne,nf,d⟩
 ·have hfn:X.fn x=true:=by
   rcases hf with z|z
   ·exact z
   ·rw[z] at hk;cases hk
  obtain⟨c,hc⟩:=I.ok.has x (.inl hk)
  obtain⟨w',z⟩:=I.cell x c hc
  refine wpAny_storeName_cell I.ok.kind hk hc z (fun h' hc' hs=>?_)
  obtain⟨oc,hoc,hocd⟩:=id z
  refine h {s with heap:=h'} ⟨I.ok,I.os,I.bare,⟨fun b o e n hb hx=>?_,fun b o e n hb hx=>?_,I.base.free,fun b o e hx=>?_,I.base.tups,I.base.frzs,I.base.tbls⟩,⟨m,hn.sameBut hs (Ne.symm (cne x c hc)),fun j y v' e1 e2 e3=>?_⟩,fun y c' e=>?_,I.free,I.freeC,fun p hp=>?_,tracked ⟨oc,hoc,I.freeC x c hc⟩ hs,by simpa using I.len⟩ ⟨c,hs,.inr hc⟩
  ·exact(hs.2 b (Nat.ne_of_lt (Nat.lt_of_lt_of_le (Heap.lt_size e) (I.ok.cab x c hfn hc)))).trans (I.base.keep b o e n hb hx)
  ·obtain⟨sl,e1⟩:=I.base.slot b o e n hb hx
   exact⟨sl,(hs.2 b (Nat.ne_of_lt (Nat.lt_of_lt_of_le (Heap.lt_size e) (I.ok.cab x c hfn hc)))).trans e1⟩
  ·obtain⟨o',e1⟩:=I.base.there b o e hx
   exact⟨o',(hs.2 b (Nat.ne_of_lt (Nat.lt_of_lt_of_le (Heap.lt_size e) (I.ok.cab x c hfn hc)))).trans e1⟩
  ·by_cases hj:j=i
   ·subst hj
    rw[hi] at e1;cases e1
    rw[List.getElem?_set_self hiσ] at e2
    cases e2
    exact⟨u,r,.inr ⟨.inl hk,c,hc,hc'⟩⟩
   ·rw [List.getElem?_set_ne (Ne.symm hj)] at e2
    obtain⟨u',r',q⟩:=hl j y v' e1 e2 e3
    refine⟨u',r',?_⟩
    rcases q with q|⟨k,c',e,z'⟩
    ·exact .inl q
    ·refine .inr ⟨k,c',e,z'.sameBut hs ?_⟩
     rintro rfl
     exact hj (zeV hN e1 (I.ok.inj _ _ _ e hc▸hi))
  ·by_cases hcc:c'=c
   ·subst hcc;exact⟨_,hc'⟩
   ·obtain⟨w2,z2⟩:=I.cell y c' e
    exact⟨w2,z2.sameBut hs hcc⟩
  ·obtain⟨e,n,ne,nf,d⟩:=I.pin p hp
   refine⟨(hs.2 p.1 ?_).trans e,n,ne,nf,d⟩
   intro q
   rw[q,hoc] at e
   have q':oc=p.2:=Option.some.inj e
   exact d w' (by rw[← q'];exact hocd)
theorem zaI {M:Model}{A:Around}{E:Value→Shared→Prop}{i:Nat}{x:Str}{v:V}{u:Value}{Q:Unit→Shared→Prop}(I:Inv X pins σ H s)(hN:X.N.Nodup)(hi:X.N[i]? = some x)(hx:Loc X.env.scope x)(r:RelV v u)
  (h:∀s',Inv X pins (σ.set i (some v)) H s'→Q () s') (hf:X.fn x=true∨X.env.scope.names.lookup x=some .local:=by first|exact .inl rfl|exact .inr rfl|assumption):wpAny M A (storeName X.env x u) Q E s :=
 zfY I hN hi hx r (fun s' I' _=>h s' I') hf
theorem Inv.call' {s':Shared}{ch:List Addr}(I:Inv X pins σ H s)(ho:s'.os=s.os)(u:Un (frs X.stack) ch H H' s.heap s'.heap)(hok:HOk X.prog X.w H' s'.heap)(hg:AllBare s'.gens)
  (hch:∀b∈ch,(b∈X.ex∨X.s₀.heap.objs.size≤b)∧b≠X.env.locals∧(∀x c,X.env.cells.lookup x=some c→c≠b)∧∀p∈X.pn++pins,p.1≠b):Inv X pins σ H' s':=by
 obtain⟨h',g',d',t',o'⟩:=s'
 have e:o'=s.os:=ho
 subst e
 exact I.call (g':=g') (t':=t') (d':=d') u hok hg hch
end
abbrev XK:=Value→Option Addr→Hp→Prop
abbrev St:=List (Option V)
abbrev VK:=V→Hp→Prop
abbrev TE:=St→Hp→VK→Prop
abbrev TT:=St→Hp→(Bool→Hp→Prop)→Prop
abbrev TA:=St→Hp→(List V→Hp→Prop)→Prop
structure Ends where
 nx:St→Hp→Prop
 rt:VK
 bk:St→Hp→Prop:=fun _ _=>False
 ct:St→Hp→Prop:=fun _ _=>False
abbrev TS:=Ends→St→Hp→Prop
inductive EP (X:Cx)(pins:List (Addr×Obj))(σ:St)(Q:VK)(u:Value)(s':Shared):Prop
 | mk (v:V) (H':Hp) (I:Inv X pins σ H' s') (r:RelV v u) (q:Q v H')
inductive TP (X:Cx)(pins:List (Addr×Obj))(σ:St)(Q:Bool→Hp→Prop)(b:Bool)(s':Shared):Prop
 | mk (H':Hp) (I:Inv X pins σ H' s') (q:Q b H')
inductive AP (X:Cx)(pins:List (Addr×Obj))(σ:St)(Q:List V→Hp→Prop)(us:List Value)(s':Shared):Prop
 | mk (vs:List V) (H':Hp) (I:Inv X pins σ H' s') (r:Vals vs us) (q:Q vs H')
inductive SN (X:Cx)(pins:List (Addr×Obj))(Q:St→Hp→Prop)(s':Shared):Prop
 | mk (a:St) (b:Hp) (I:Inv X pins a b s') (q:Q a b)
inductive SR (X:Cx)(pins:List (Addr×Obj))(Q:VK)(u:Value)(s':Shared):Prop
 | mk (v:V) (a:St) (b:Hp) (I:Inv X pins a b s') (r:RelV v u) (q:Q v b)
def SP (X:Cx)(pins:List (Addr×Obj))(D:Ends)(f:Flow)(s':Shared):Prop :=
 match f with
 | .next=>SN X pins D.nx s'
 | .brk=>SN X pins D.bk s'
 | .cont=>SN X pins D.ct s'
 | .ret u=>SR X pins D.rt u s'
def PE (X:Cx)(e:Expr)(t:TE):Prop :=
 ∀(pins:List (Addr×Obj)) (s:Shared) (σ:St) (H:Hp) (Q:VK),Inv X pins σ H s→t σ H Q→wpAny (model X.prog X.w) X.A (eval e X.env) (EP X pins σ Q) X.xe s
def PT (X:Cx)(e:Expr)(t:TT):Prop :=
 ∀(pins:List (Addr×Obj)) (s:Shared) (σ:St) (H:Hp) (Q:Bool→Hp→Prop),Inv X pins σ H s→t σ H Q→wpAny (model X.prog X.w) X.A (isTrue e X.env (eval e X.env)) (TP X pins σ Q) X.xe s
def PW (X:Cx)(e:Expr)(t:TT):Prop :=
 ∀(whole:Sem Value) (pins:List (Addr×Obj)) (s:Shared) (σ:St) (H:Hp) (Q:Bool→Hp→Prop),Inv X pins σ H s→t σ H Q→wpAny (model X.prog X.w) X.A (isTrue e X.env whole) (TP X pins σ Q) X.xe s
theorem PW.pt {X:Cx}{e:Expr}{t:TT}(h:PW X e t):PT X e t:=h _
def PA (X:Cx)(es:List Expr)(t:TA):Prop :=
 ∀(pos:Pos) (pins:List (Addr×Obj)) (s:Shared) (σ:St) (H:Hp) (Q:List V→Hp→Prop),Inv X pins σ H s→t σ H Q→wpAny (model X.prog X.w) X.A (spliced (backTo pos (starEach es X.env))) (AP X pins σ Q) X.xe s
def PS (X:Cx)(st:Stmt)(t:TS):Prop :=
 ∀(pins:List (Addr×Obj)) (s:Shared) (σ:St) (H:Hp) (D:Ends),Inv X pins σ H s→t D σ H→wpAny (model X.prog X.w) X.A (exec st X.env) (SP X pins D) X.xe s
def PSs (X:Cx)(st:List Stmt)(t:TS):Prop :=
 ∀(pins:List (Addr×Obj)) (s:Shared) (σ:St) (H:Hp) (D:Ends),Inv X pins σ H s→t D σ H→wpAny (model X.prog X.w) X.A (execs st X.env) (SP X pins D) X.xe s
theorem thn {α:Type}{t:Sem α}{Q Q':α→Shared→Prop}{M:Model}{A:Around}{E:Value→Shared→Prop}{s:Shared}(h:wpAny M A t Q E s)(hQ:∀a s,Q a s→Q' a s):wpAny M A t Q' E s:=wpAny_mono h hQ fun _ _ x=>x
end L2
namespace L2
open PySem PySem.Spec PyProof.Rows
section
variable {X:Cx}
def zlU (i:Nat):TE:=fun σ H Q=>∃v,σ[i]? = some (some v)∧Q v H
def tC (v:V):TE:=fun _ H Q=>Q v H
theorem zkZ {i:Nat}{x:Str}{pos:Pos}(hN:X.N[i]? = some x)(hv:Vis X.env.scope x)(hd:(x == ("__debug__" : Str))=false:=by decide)(hcd:(x == ("__classdict__" : Str))=false:=by decide):PE X (.Name x pos) (zlU i):=by
 intro pins s σ H Q I h
 obtain⟨v,e,h⟩:=h
 obtain⟨m,hn,hl⟩:=I.loc
 obtain⟨u,r,l⟩:=hl i x v hN e hv
 have fin:EP X pins σ Q u s:=⟨v,H,I,r,h⟩
 rcases l with⟨hk,hm⟩|⟨hk,c,hc,hcell⟩
 ·exact wpAny_Name (wpAny_loadName_local I.ok.kind hk hn hm fin) hd
 ·rcases hk with hk|hk
  ·exact wpAny_Name (wpAny_loadName_cell I.ok.kind hk hc hcell fin) hd
  ·exact wpAny_Name (wpAny_loadName_free I.ok.kind hk hc hcell fin hcd) hd
theorem zlG {i j pos}:PE X (.Constant (.int i) j pos) (tC (.int i)):=fun _ _ _ H _ I h=>wpAny_Constant_int ⟨.int i,H,I.tok _,⟨_,rfl⟩,h⟩
theorem zmI {b j pos}:PE X (.Constant (.bool b) j pos) (tC (.bl b)):=fun _ _ _ H _ I h=>Constant_bool ⟨.bl b,H,I,rfl,h⟩
theorem zlK {j pos}:PE X (.Constant .none j pos) (tC .non):=fun _ _ _ H _ I h=>Constant_none ⟨.non,H,I,rfl,h⟩
theorem zl2 {x j pos}:PE X (.Constant (.str x) j pos) (tC (.str x)):=fun _ _ _ H _ I h=>Calls.Constant_str ⟨.str x,H,I.tok _,⟨_,rfl⟩,h⟩
def Gl (X:Cx)(x:Str):Prop:=X.env.kindOf x=some .globalImplicit
theorem zab {E:Value→Shared→Prop}{pins:List (Addr×Obj)}{s:Shared}{σ:St}{H:Hp}{x:Str}{u:Value}{pos:Pos}{Q:Value→Shared→Prop}(I:Inv X pins σ H s)(hg:Gl X x)(hm:X.mg x=some u)(h:Q u s)
  (hd:(x == ("__debug__" : Str))=false:=by decide):wpAny (model X.prog X.w) X.A (eval (.Name x pos) X.env) Q E s :=
 Calls.Name_function_global I.ok.kind hg (Calls.loadGlobal_global (by rw[I.ok.glob];exact I.mod.glob.keeps I.bk) hm h) hd
theorem zaj {E:Value→Shared→Prop}{pins:List (Addr×Obj)}{s:Shared}{σ:St}{H:Hp}{x:Str}{u:Value}{pos:Pos}{Q:Value→Shared→Prop}(I:Inv X pins σ H s)(hg:Gl X x)(hm:X.mg x=none)(hv:bootBuiltins x=some u)(h:Q u s)
  (hn:x ≠ "__name__" := by decide) (hd:(x == ("__debug__" : Str))=false:=by decide):wpAny (model X.prog X.w) X.A (eval (.Name x pos) X.env) Q E s:=by
 obtain⟨mb,h1,h2⟩:=I.mod.blt
 exact Calls.Name_function_global I.ok.kind hg (Calls.loadGlobal_builtin (by rw[I.ok.glob];exact I.mod.glob.keeps I.bk) hm (by rw[I.ok.blt];exact h1.keeps I.bk) ((h2 x hn).trans hv) h) hd
theorem qj {x:Str}{v:V}{u:Value}{pos:Pos}(hg:Gl X x)(hm:X.mg x=some u)(r:RelV v u)(hd:(x == ("__debug__" : Str))=false:=by decide):PE X (.Name x pos) (tC v) :=
 fun _ _ _ H _ I h=>zab I hg hm ⟨v,H,I,r,h⟩ hd
theorem jZ {x:Str}{v:V}{u:Value}{pos:Pos}(hg:Gl X x)(hm:X.mg x=none)(hv:bootBuiltins x=some u)(r:RelV v u)(hn:x ≠ "__name__" := by decide)(hd:(x == ("__debug__" : Str))=false:=by decide):PE X (.Name x pos) (tC v) :=
 fun _ _ _ H _ I h=>zaj I hg hm hv ⟨v,H,I,r,h⟩ hn hd
variable {a b:Expr}{ta tb:TE}{pos:Pos}
def PC (X:Cx)(op:CmpOp)(a b:Expr)(t:TE):Prop :=
 ∀ (pins:List (Addr×Obj)) (s:Shared) (σ:St) (H:Hp) (Q:VK),Inv X pins σ H s→t σ H Q →
  wpAny (model X.prog X.w) X.A (eval a X.env) (fun v s₁=>wpAny (model X.prog X.w) X.A (eval b X.env) (fun u s₂=>wpAny (model X.prog X.w) X.A (compareOp op v u) (EP X pins σ Q) X.xe s₂) X.xe s₁) X.xe s
theorem zeA (b:Expr){op:CmpOp}(h:op≠.In)(h2:op≠.NotIn):behindInMarks op b=false:=by
 have e1:(op == CmpOp.In)=false:=by cases op <;>first|rfl|exact absurd rfl h
 have e2:(op == CmpOp.NotIn)=false:=by cases op <;>first|rfl|exact absurd rfl h2
 cases b <;>simp[behindInMarks,e1,e2]
def znv (ta:TE):TE:=fun σ H Q=>ta σ H fun x H1=>Q (.bl (decide (x=.non))) H1
def zmo (ta:TE):TE:=fun σ H Q=>ta σ H fun x H1=>Q (.bl (!decide (x=.non))) H1
theorem RelV.none_iff {x:V}{v:Value}(r:RelV x v):(v == Value.none)=decide (x=.non):=by
 cases x with
 | non=>cases r;rfl
 | bl _=>cases r;rfl
 | int _=>obtain⟨t,rfl⟩:=r;rfl
 | str _=>obtain⟨t,rfl⟩:=r;rfl
 | byt _=>obtain⟨t,rfl⟩:=r;rfl
 | flt _=>obtain⟨t,rfl⟩:=r;rfl
 | ref _=>cases r;rfl
 | ty _=>cases r;rfl
theorem zlR {j pos'}(ha:PE X a ta):PC X .Is a (.Constant .none j pos') (znv ta):=by
 intro pins s σ H Q I h
 refine thn (ha pins s σ H _ I h) fun v s1 hq0=>?_
 obtain⟨x,H1,I1,r1,q1⟩:=hq0
 exact Constant_none (is_none_gen ⟨.bl _,H1,I1,by rw[r1.none_iff];rfl,q1⟩)
theorem zkp {j pos'}(ha:PE X a ta):PC X .IsNot a (.Constant .none j pos') (zmo ta):=by
 intro pins s σ H Q I h
 refine thn (ha pins s σ H _ I h) fun v s1 hq1=>?_
 obtain⟨x,H1,I1,r1,q1⟩:=hq1
 exact Constant_none (isnot_none_gen ⟨.bl _,H1,I1,by rw[r1.none_iff];rfl,q1⟩)
def tB (t:TE):TT:=fun σ H Q=>t σ H fun x H1=>∃c,x=.bl c∧Q c H1
theorem zk5 {op:CmpOp}{t:TE}(h:PC X op a b t)(h1:behindInMarks op b=false:=by first|exact zeA _ (by decide) (by decide)|rfl):PE X (.Compare a [op] [b] pos) t:=fun pins s σ H Q I hw=>wpAny_Compare1 (h pins s σ H Q I hw) h1
theorem ziQ {op:CmpOp}{t:TE}(h:PC X op a b t)(h1:behindInMarks op b=false:=by first|exact zeA _ (by decide) (by decide)|rfl):PT X (.Compare a [op] [b] pos) (tB t):=by
 intro pins s σ H Q I hw
 refine wpAny_isTrue_Compare1 (thn (h pins s σ H _ I hw) fun v s1 h1=>thn h1 fun u s2 h2=>thn h2 fun c s3 ⟨x,H1,I1,r1,q1⟩=>?_) h1
 obtain⟨d,rfl,q⟩:=q1
 cases r1
 exact wpAny_truthy_bool ⟨H1,I1,q⟩
theorem zlo {e:Expr}{t:TE}(h:PE X e t)(he:∀whole,isTrue e X.env whole=(do let v ← whole;standAt e.pos;holding [v] (truthy v)):=by intro _;rfl):PT X e (tB t):=by
 intro pins s σ H Q I hw
 refine isTrue_plain (thn (h pins s σ H _ I hw) fun v s1 hq2=>?_) (he _)
 obtain⟨x,H1,I1,r1,q1⟩:=hq2
 obtain⟨d,rfl,q⟩:=q1
 cases r1
 exact wpAny_truthy_bool ⟨H1,I1,q⟩
variable {tA tB':TT}{rest:List Expr}
def tOr (t u:TT):TT:=fun σ H Q=>t σ H fun c H1=>if c=true then Q true H1 else u σ H1 Q
def zm8 (t:TT):TT:=fun σ H Q=>t σ H fun c H1=>Q (!c) H1
theorem zkS (ha:PT X a tA):PW X (.BoolOp .Or [a] pos) tA:=by
 intro wh pins s σ H Q I h
 refine isTrue_or (thn (ha pins s σ H Q I h) fun c s1 e=>?_)
 cases c with
 | false=>exact isTrue_or_nil e
 | true=>exact e
theorem zmy (ha:PT X a tA)(hb:PW X (.BoolOp .Or (b::rest) pos) tB'):PW X (.BoolOp .Or (a::b::rest) pos) (tOr tA tB'):=by
 intro wh pins s σ H Q I h
 refine isTrue_or (thn (ha pins s σ H _ I h) fun c s1 hq3=>?_)
 obtain⟨H1,I1,q1⟩:=hq3
 cases c with
 | true=>exact⟨H1,I1,q1⟩
 | false=>exact hb wh pins s1 σ H1 Q I1 q1
theorem zlu (ha:PT X a tA):PT X (.UnaryOp .Not a pos) (zm8 tA):=by
 intro pins s σ H Q I h
 exact isTrue_not (thn (ha pins s σ H (fun c H1=>Q (!c) H1) I h) fun _ _ ⟨b,I,q⟩=>⟨b,I,q⟩)
def zmQ (ta tb:TE):TE:=fun σ H Q=>ta σ H fun x H1=>∃c,x=.bl c∧if c=true then tb σ H1 Q else Q (.bl false) H1
def znp (ta tb:TE):TE:=fun σ H Q=>ta σ H fun x H1=>∃c,x=.bl c∧if c=true then Q (.bl true) H1 else tb σ H1 Q
def zme (ta:TE):TE:=fun σ H Q=>ta σ H fun x H1=>∃c,x=.bl c∧Q (.bl (!c)) H1
theorem zlg {op}{t:TE}(h:PE X a t):PE X (.BoolOp op [a] pos) t:=fun pins s σ H Q I hw=>BoolOp_one (h pins s σ H Q I hw)
theorem zlw (ha:PE X a ta)(hb:PE X (.BoolOp .And (b::rest) pos) tb):PE X (.BoolOp .And (a::b::rest) pos) (zmQ ta tb):=by
 intro pins s σ H Q I h
 refine BoolOp_and (thn (ha pins s σ H _ I h) fun v s1 hq4=>?_)
 obtain⟨x,H1,I1,r1,q1⟩:=hq4
 obtain⟨c,rfl,q1⟩:=q1
 cases r1
 refine wpAny_truthy_bool ?_
 cases c with
 | true=>exact hb pins s1 σ H1 Q I1 q1
 | false=>exact⟨.bl false,H1,I1,rfl,q1⟩
theorem zmL (ha:PE X a ta)(hb:PE X (.BoolOp .Or (b::rest) pos) tb):PE X (.BoolOp .Or (a::b::rest) pos) (znp ta tb):=by
 intro pins s σ H Q I h
 refine BoolOp_or (thn (ha pins s σ H _ I h) fun v s1 hq5=>?_)
 obtain⟨x,H1,I1,r1,q1⟩:=hq5
 obtain⟨c,rfl,q1⟩:=q1
 cases r1
 refine wpAny_truthy_bool ?_
 cases c with
 | false=>exact hb pins s1 σ H1 Q I1 q1
 | true=>exact⟨.bl true,H1,I1,rfl,q1⟩
theorem zkX (ha:PE X a ta):PE X (.UnaryOp .Not a pos) (zme ta):=by
 intro pins s σ H Q I h
 refine UnaryOp_ (thn (ha pins s σ H _ I h) fun v s1 hq6=>?_)
 obtain⟨x,H1,I1,r1,q1⟩:=hq6
 obtain⟨c,rfl,q1⟩:=q1
 cases r1
 exact not_of (wpAny_truthy_bool ⟨.bl (!c),H1,I1,rfl,q1⟩)
def tIf (t:TT)(ta tb:TE):TE:=fun σ H Q=>t σ H fun c H1=>if c=true then ta σ H1 Q else tb σ H1 Q
theorem zh0 {c:Expr}(hc:PT X c tA)(ha:PE X a ta)(hb:PE X b tb):PE X (.IfExp c a b pos) (tIf tA ta tb):=by
 intro pins s σ H Q I h
 refine wpAny_IfExp (thn (hc pins s σ H _ I h) fun d s1 hq7=>?_)
 obtain⟨H1,I1,q1⟩:=hq7
 cases d with
 | true=>exact ha pins s1 σ H1 Q I1 q1
 | false=>exact hb pins s1 σ H1 Q I1 q1
end
end L2
namespace L2
open PySem PySem.Spec PyProof.Rows
def SqL (K:PySem.W.Frag)(H:Hp)(a:Addr)(xs:List V):Prop :=
 Rd H a (.lst xs) ∨
  ∃(o:Obj) (its:Array Value) (n:Nat),K.lookup a=some o∧o.cls=.type "list" ∧ o.dict=none∧o.data=.seq its n∧its.size≤sizeLine∧Vals xs its.toList
def SqT (K:PySem.W.Frag)(H:Hp)(a:Addr)(xs:List V):Prop :=
 Rd H a (.tup xs) ∨
  ∃(o:Obj) (its:Array Value) (n:Nat),K.lookup a=some o∧o.cls=.type "tuple" ∧ o.dict=none∧o.data=.seq its n∧its.size≤sizeLine∧Vals xs its.toList
def znw:Value→Option V
 | .none=>some .non
 | .bool b=>some (.bl b)
 | .int i _=>some (.int i)
 | .str x _=>some (.str x)
 | .bytes b _=>some (.byt b)
 | .float b _=>some (.flt b)
 | .ref a=>some (.ref a)
 | .type n=>some (.ty n)
 | _=>none
theorem RelV.abs {x:V}{u:Value}(r:RelV x u):znw u=some x:=by
 cases x with
 | non=>cases r;rfl
 | bl _=>cases r;rfl
 | int _=>obtain⟨t,rfl⟩:=r;rfl
 | str _=>obtain⟨t,rfl⟩:=r;rfl
 | byt _=>obtain⟨t,rfl⟩:=r;rfl
 | flt _=>obtain⟨t,rfl⟩:=r;rfl
 | ref _=>cases r;rfl
 | ty _=>cases r;rfl
theorem RelV.inj {x y:V}{u:Value}(r:RelV x u)(q:RelV y u):x=y:=Option.some.inj (r.abs.symm.trans q.abs)
theorem Vals.inj:∀{xs ys:List V}{us:List Value},Vals xs us→Vals ys us→xs=ys:=by
 intro xs ys us h k
 induction h generalizing ys with
 | nil=>cases k;rfl
 | cons r t ih=>cases k with|cons r' t'=>rw[r.inj r',ih t']
section
variable {X:Cx}{pins:List (Addr×Obj)}{σ:St}{H:Hp}{s:Shared}{a:Addr}{xs ys:List V}
theorem SqT.of {K:PySem.W.Frag}(h:H a=some (.tup xs)):SqT K H a xs:=.inl (.inl h)
theorem Inv.list (I:Inv X pins σ H s)(h:SqL X.K H a xs):∃its:List Value,Vals xs its∧PlainL s.heap a its.toArray∧xs.length≤sizeLine:=by
 rcases h with h|⟨o,its,n,hk,hc,hd,hs,hz,r⟩
 ·obtain⟨z,its,n,r,e⟩:=h.ok I.hok
  exact⟨its,r,⟨_,n,e,rfl,rfl,rfl⟩,z⟩
 ·refine⟨its.toList,r,⟨o,n,I.kIn a o hk,hc,hd,by simpa using hs⟩,?_⟩
  have e:=r.length
  simp only[Array.length_toList] at e
  omega
theorem Inv.tuple (I:Inv X pins σ H s)(h:SqT X.K H a xs):∃its:List Value,Vals xs its∧IsTup s.heap a its.toArray∧xs.length≤sizeLine:=by
 rcases h with h|⟨o,its,n,hk,hc,_,hs,hz,r⟩
 ·obtain⟨z,its,r,p⟩:=h.ok I.hok
  exact⟨its,r,p.tup,z⟩
 ·refine⟨its.toList,r,⟨o,I.kIn a o hk,hc,n,by simpa using hs⟩,?_⟩
  have e:=r.length
  simp only[Array.length_toList] at e
  omega
theorem Inv.noDict (I:Inv X pins σ H s)(h:SqT X.K H a xs):∃o,s.heap.get? a=some o∧o.cls=.type "tuple" ∧ o.dict=none:=by
 rcases h with h|⟨o,its,n,hk,hc,hd,hs,hz,r⟩
 ·obtain⟨z,its,r,o,e,c,_,d⟩:=h.ok I.hok
  exact⟨o,e,c,d⟩
 ·exact⟨o,I.kIn a o hk,hc,hd⟩
theorem Inv.list_inj (I:Inv X pins σ H s)(h:SqL X.K H a xs)(h':SqL X.K H a ys):xs=ys:=by
 obtain⟨its,r,⟨o,n,e,_,_,d⟩,_⟩:=I.list h
 obtain⟨its',r',⟨o',n',e',_,_,d'⟩,_⟩:=I.list h'
 rw[e] at e';cases e'
 rw[d] at d'
 injection d' with d1 _
 have:its=its':=by simpa using congrArg Array.toList d1
 subst this
 exact r.inj r'
theorem Inv.tuple_inj (I:Inv X pins σ H s)(h:SqT X.K H a xs)(h':SqT X.K H a ys):xs=ys:=by
 obtain⟨its,r,⟨o,e,_,n,d⟩,_⟩:=I.tuple h
 obtain⟨its',r',⟨o',e',_,n',d'⟩,_⟩:=I.tuple h'
 rw[e] at e';cases e'
 rw[d] at d'
 injection d' with d1 _
 have:its=its':=by simpa using congrArg Array.toList d1
 subst this
 exact r.inj r'
end
abbrev Cx.wish (X:Cx)(E:Value→Shared→Prop):Cx:={X with xe:=E}
abbrev Cx.nox (X:Cx):Cx:=X.wish fun _ _=>False
theorem Cx.Ok.wish {X:Cx}(ok:X.Ok)(E:Value→Shared→Prop):(X.wish E).Ok :=
 ⟨ok.mod,ok.kind,ok.glob,ok.blt,ok.above,ok.inj,ok.has,ok.cab,ok.hd,ok.frames,ok.stk,ok.exf,ok.bs,ok.bsz,ok.noex,ok.exfs,ok.funs,ok.frf⟩
theorem Cx.Ok.unwish {X:Cx}{E:Value→Shared→Prop}(ok:(X.wish E).Ok):X.Ok :=
 ⟨ok.mod,ok.kind,ok.glob,ok.blt,ok.above,ok.inj,ok.has,ok.cab,ok.hd,ok.frames,ok.stk,ok.exf,ok.bs,ok.bsz,ok.noex,ok.exfs,ok.funs,ok.frf⟩
section
variable {X:Cx}{pins:List (Addr×Obj)}{σ:St}{H:Hp}{s:Shared}{E:Value→Shared→Prop}
theorem Inv.wish (I:Inv X pins σ H s)(E:Value→Shared→Prop):Inv (X.wish E) pins σ H s:=⟨I.ok.wish E,I.os,I.bare,I.base,I.loc,I.cell,I.free,I.freeC,I.pin,I.hok,I.len⟩
theorem Inv.unwish (I:Inv (X.wish E) pins σ H s):Inv X pins σ H s:=⟨I.ok.unwish,I.os,I.bare,I.base,I.loc,I.cell,I.free,I.freeC,I.pin,I.hok,I.len⟩
theorem SP.unwish {D:Ends}{f:Flow}{s':Shared}(h:SP (X.wish E) pins D f s'):SP X pins D f s':=by
 cases f with
 | next=>obtain⟨σ',H',I,q⟩:=h;exact⟨σ',H',I.unwish,q⟩
 | brk=>obtain⟨σ',H',I,q⟩:=h;exact⟨σ',H',I.unwish,q⟩
 | cont=>obtain⟨σ',H',I,q⟩:=h;exact⟨σ',H',I.unwish,q⟩
 | ret u=>obtain⟨v,σ',H',I,r,q⟩:=h;exact⟨v,σ',H',I.unwish,r,q⟩
theorem PE.nox {e:Expr}{t:TE}(h:PE X.nox e t):PE X e t:=fun pins s σ H Q I hw =>
 wpAny_mono (h pins s σ H Q (I.wish _) hw) (fun _ _ ⟨v,H',I',r,q⟩=>⟨v,H',I'.unwish,r,q⟩) fun _ _ z=>False.elim z
theorem PT.nox {e:Expr}{t:TT}(h:PT X.nox e t):PT X e t:=fun pins s σ H Q I hw =>
 wpAny_mono (h pins s σ H Q (I.wish _) hw) (fun _ _ ⟨H',I',q⟩=>⟨H',I'.unwish,q⟩) fun _ _ z=>False.elim z
theorem PSs.nox {st:List Stmt}{t:TS}(h:PSs X.nox st t):PSs X st t:=fun pins s σ H D I hw =>
 wpAny_mono (h pins s σ H D (I.wish _) hw) (fun _ _ q=>q.unwish) fun _ _ z=>False.elim z
end
section
variable {X:Cx}{st:Stmt}{rest:List Stmt}{t u:TS}{e:Expr}{te:TE}{pos:Pos}
def zmi:TS:=fun D σ H=>D.nx σ H
def znm (t u:TS):TS:=fun D σ H=>t {D with nx:=u D} σ H
theorem zj2:PSs X [] zmi:=fun _ _ σ H _ I h=>wpAny_execs_nil ⟨σ,H,I,h⟩
theorem zhP (h1:PS X st t)(h2:PSs X rest u):PSs X (st::rest) (znm t u):=by
 intro pins s σ H D I h
 refine wpAny_execs_cons (thn (h1 pins s σ H {D with nx:=u D} I h) fun f s1 q=>?_)
 cases f with
 | next =>
  obtain⟨σ',H',I',q⟩:=q
  exact h2 pins s1 σ' H' D I' q
 | ret v=>exact q
 | brk=>exact q
 | cont=>exact q
theorem zgV (h1:PS X st t):PSs X [st] t:=by
 intro pins s σ H D I h
 refine wpAny_execs_cons (thn (h1 pins s σ H D I h) fun f s1 q=>?_)
 cases f with
 | next=>exact wpAny_execs_nil q
 | ret v=>exact q
 | brk=>exact q
 | cont=>exact q
theorem Inv.quiet {pins:List (Addr×Obj)}{σ:St}{H:Hp}{s:Shared}(I:Inv X pins σ H s):interactive X.env=false:=by simp[interactive,I.ok.kind]
def zmm (te:TE):TS:=fun D σ H=>te σ H fun _ H1=>D.nx σ H1
theorem zgQ (he:PE X e te)(hs:swapsWith e none pos.line X.env=pure false:=by rfl):PS X (.Expr e pos) (zmm te):=by
 intro pins s σ H D I h
 exact wpAny_Expr_any (thn (he pins s σ H _ I h) fun v s1 ⟨x,H1,I1,r1,q1⟩=>⟨σ,H1,I1,q1⟩) I.quiet hs
def znq (te:TE):TS:=fun D σ H=>te σ H D.rt
theorem ziW (he:PE X e te):PS X (.Return (some e) pos) (znq te):=by
 intro pins s σ H D I h
 exact wpAny_Return_some (thn (he pins s σ H _ I h) fun v s1 ⟨x,H1,I1,r1,q1⟩=>⟨x,σ,H1,I1,r1,q1⟩)
def znr (c:TT)(t u:TS):TS:=fun D σ H=>c σ H fun b H1=>if b=true then t D σ H1 else u D σ H1
theorem zmP {c:Expr}{a b:List Stmt}{tc:TT}(hc:PT X c tc)(ha:PSs X a t)(hb:PSs X b u):PS X (.If c a b pos) (znr tc t u):=by
 intro pins s σ H D I h
 refine wpAny_If (thn (hc pins s σ H _ I h) fun d s1 hq8=>?_)
 obtain⟨H1,I1,q1⟩:=hq8
 cases d with
 | true=>exact ha pins s1 σ H1 D I1 q1
 | false=>exact hb pins s1 σ H1 D I1 q1
end
abbrev TG:=V→St→Hp→(St→Hp→Prop)→Prop
abbrev TGs:=List V→St→Hp→(St→Hp→Prop)→Prop
def PG (X:Cx)(target:Expr)(t:TG):Prop :=
 ∀ (pins:List (Addr×Obj)) (s:Shared) (σ:St) (H:Hp) (v:V) (u:Value) (Q:St→Hp→Prop),Inv X pins σ H s→RelV v u→t v σ H Q →
  wpAny (model X.prog X.w) X.A (assign target X.env u) (fun _ s'=>∃σ' H',Inv X pins σ' H' s'∧Q σ' H') X.xe s
def PGs (X:Cx)(ts:List Expr)(t:TGs):Prop :=
 ∀ (pins:List (Addr×Obj)) (s:Shared) (σ:St) (H:Hp) (vs:List V) (us:List Value) (Q:St→Hp→Prop),Inv X pins σ H s→Vals vs us→t vs σ H Q →
  wpAny (model X.prog X.w) X.A (assignInOrder ((assignEach ts X.env).map (·.2)) us) (fun _ s'=>∃σ' H',Inv X pins σ' H' s'∧Q σ' H') X.xe s
section
variable {X:Cx}{pos:Pos}
def qx (i:Nat):TG:=fun v σ H Q=>Q (σ.set i (some v)) H
theorem zQ {i:Nat}{x:Str}(hN:X.N.Nodup)(hi:X.N[i]? = some x)(hx:Loc X.env.scope x)(hf:X.fn x=true∨X.env.scope.names.lookup x=some .local:=by first|exact .inl rfl|exact .inr rfl|assumption):PG X (.Name x pos) (qx i):=by
 intro pins s σ H v u Q I r h
 exact wpAny_assign_Name (zaI I hN hi hx r (fun s' I'=>⟨_,H,I',h⟩) hf)
def zjx:TGs:=fun vs σ H Q=>vs=[]∧Q σ H
def j7 (t:TG)(u:TGs):TGs:=fun vs σ H Q=>∃v r,vs=v::r∧t v σ H fun σ' H'=>u r σ' H' Q
theorem zjv:PGs X [] zjx:=by
 intro pins s σ H vs us Q I r h
 obtain⟨e,h⟩:=h
 subst e
 cases r
 exact assignInOrder_nil ⟨σ,H,I,h⟩
theorem zeT {e:Expr}{es:List Expr}{t:TG}{u:TGs}(h1:PG X e t)(h2:PGs X es u)
  (hs:(assignEach (e::es) X.env).map (·.2)=assign e X.env::(assignEach es X.env).map (·.2):=by rfl):PGs X (e::es) (j7 t u):=by
 intro pins s σ H vs us Q I r h
 obtain⟨v,vr,e1,h⟩:=h
 subst e1
 cases r with
 | cons r rr =>
  rw[hs]
  refine assignInOrder_cons (thn (h1 pins s σ H _ _ _ I r h) fun _ s1 hq9=>?_)
  obtain⟨σ1,H1,I1,q1⟩:=hq9
  exact h2 pins s1 σ1 H1 _ _ Q I1 rr q1
def zjt (K:PySem.W.Frag)(n:Nat)(t:TGs):TG:=fun v σ H Q=>∃a xs,v=.ref a∧SqT K H a xs∧xs.length=n∧t xs σ H Q
theorem zkU {es:List Expr}{k:Nat}{t:TGs}{n:Nat}(hc:X.calm=true)(h:PGs X es t)
  (hn:(assignEach es X.env).length=n:=by rfl) (hst:(assignEach es X.env).findIdx? (·.1)=none:=by rfl):PG X (.Tuple es k pos) (zjt X.K n t):=by
 intro pins s σ H v u Q I r hw
 obtain⟨a,xs,e1,hq,hl,hw⟩:=hw
 subst e1
 cases r
 obtain⟨its,rv,ht,hz⟩:=I.tuple hq
 refine assign_Tuple_tuple (I.ok.hd hc) ht (by simp[hn,← hl,rv.length]) hst fun h' hx=>?_
 have I1:Inv X pins σ H {s with heap:=h'}:=I.kept (t':=s.toks) fun b o e=>hx b o (Nat.ne_of_lt (Heap.lt_size e)) e
 exact h pins _ σ H xs _ Q I1 (by simpa using rv) hw
def znh (te:TE)(g:TG):TS:=fun D σ H=>te σ H fun x H1=>g x σ H1 D.nx
theorem zf7 {i:Nat}{x:Str}{e:Expr}{te:TE}{pos':Pos}(hN:X.N.Nodup)(hi:X.N[i]? = some x)(hx:Loc X.env.scope x)(he:PE X e te)(hs:swapsWith e (some (.Name x pos')) pos.line X.env=pure false:=by rfl)(hf:X.fn x=true∨X.env.scope.names.lookup x=some .local:=by first|exact .inl rfl|exact .inr rfl|assumption) :
  PS X (.Assign [.Name x pos'] e pos) (znh te (qx i)):=by
 intro pins s σ H D I h
 refine wpAny_Assign_Name (thn (he pins s σ H _ I h) fun v s1 ⟨y,H1,I1,r1,q1⟩=>?_) hs
 exact zaI I1 hN hi hx r1 (fun s2 I2=>⟨_,H1,I2,q1⟩) hf
end
section
variable {X:Cx}{pos:Pos}
def zkT (c:TT)(tb:TS):TS:=fun D σ H=>∃W:Nat→St→Hp→Prop,(∃m,W m σ H)∧∀m σ H,W m σ H →
 c σ H fun b H1=>if b=true then ∃N:St→Hp→Prop,(∀σ' H',N σ' H'→∃m',m'<m∧W m' σ' H')∧tb {D with nx:=N,ct:=N,bk:=D.nx} σ H1 else D.nx σ H1
theorem zhC {c:Expr}{body:List Stmt}{tc:TT}{tb:TS}(hp:PassesOwn (model X.prog X.w) X.A X.env X.xe)(hc:PT X c tc)(hb:PSs X body tb):PS X (.While c body [] pos) (zkT tc tb):=by
 intro pins s σ H D I h
 obtain⟨W,⟨m0,w0⟩,turn⟩:=h
 refine wpAny_While (codeAny_whileLoop (fun n s'=>∃σ' H',Inv X pins σ' H' s'∧W n σ' H') ?_ m0 ⟨σ,H,I,w0⟩)
 rintro n s1 ⟨σ1,H1,I1,w1⟩
 refine wpAny_passesOwn hp (thn (hc pins s1 σ1 H1 _ I1 (turn n σ1 H1 w1)) fun b s2 hq10=>?_)
 obtain⟨H2,I2,q2⟩:=hq10
 cases b with
 | true =>
  obtain⟨N,hN,q2⟩:=q2
  rw[if_pos rfl]
  refine wpAny_passesOwn hp (thn (hb pins s2 σ1 H2 _ I2 q2) fun f s3 q3=>?_)
  cases f with
  | next =>
   obtain⟨σ3,H3,I3,n3⟩:=q3
   obtain⟨m',hm,w3⟩:=hN σ3 H3 n3
   exact⟨m',hm,σ3,H3,I3,w3⟩
  | cont =>
   obtain⟨σ3,H3,I3,n3⟩:=q3
   obtain⟨m',hm,w3⟩:=hN σ3 H3 n3
   exact⟨m',hm,σ3,H3,I3,w3⟩
  | brk=>exact q3
  | ret v=>exact q3
 | false =>
  rw[if_neg Bool.false_ne_true]
  exact wpAny_execs_nil ⟨σ1,H2,I2,q2⟩
end
structure It where
 go:Nat→Hp→Prop
 yld:Nat→Hp→V→Hp→Prop
 stop:Nat→Hp→Prop
def zhZ (X:Cx)(pins:List (Addr×Obj))(H:Hp)(b:Addr):Prop :=
 H b=none∧b≠X.env.locals∧b∉X.fs∧(b∈X.ex∨X.s₀.heap.objs.size≤b)∧(∀x c,X.env.cells.lookup x=some c→c≠b)∧∀p∈X.pn++pins,p.1≠b
theorem Inv.fpOk {X:Cx}{pins:List (Addr×Obj)}{σ:St}{H H':Hp}{s:Shared}{b:Addr}(I:Inv X pins σ H s)(hb:s.heap.objs.size≤b)(hn:H' b=none):zhZ X pins H' b:=by
 refine⟨hn,Nat.ne_of_gt (Nat.lt_of_lt_of_le I.lt hb),I.nofs hb,.inr (Nat.le_trans I.sz hb),fun x c e z=>?_,fun p hp z=>?_⟩
 ·obtain⟨v,q⟩:=I.cell x c e
  exact absurd (Nat.lt_of_lt_of_le q.lt (by rw[z];exact hb)) (Nat.lt_irrefl _)
 ·exact absurd (Nat.lt_of_lt_of_le (Heap.lt_size (I.pin p hp).1) (by rw[z];exact hb)) (Nat.lt_irrefl _)
structure Turn (P:Program)(w:World)(K:PySem.W.Frag)(tg:Expr)(J:It)(fp:List Addr)(it:Addr)(tn:Nat→Heap→Prop):Prop where
 mem:it∈fp
 obj:∀i h,tn i h→∀b∈fp,∃o,h.get? b=some o∧∀v,o.data≠.cell v
 keep:∀i h h',tn i h→(∀b∈fp,∀o,h.get? b=some o→h'.get? b=some o)→tn i h'
 item:∀(X:Cx),X.prog=P→X.w=w→X.K=K→X.calm=true→∀(i:Nat) (pins:List (Addr×Obj)) (s:Shared) (σ:St) (H:Hp) (E:Value→Shared→Prop),Inv X pins σ H s→(∀b∈fp,zhZ X pins H b)→tn i s.heap→J.go i H →
  wpAny (model P w) X.A (pyNext (.ref it)) (fun r s1=>∃u,r=some u ∧
   wpAny (model P w) X.A (letOwnedTupleGo tg (.ref it) u) (fun _ s2=>∃x H',Inv X pins σ H' s2∧RelV x u∧J.yld i H x H'∧tn (i+1) s2.heap∧∀b∈fp,H' b=none) E s1) E s
 done:∀(X:Cx),X.prog=P→X.w=w→X.K=K→X.calm=true→∀(i:Nat) (pins:List (Addr×Obj)) (s:Shared) (σ:St) (H:Hp) (E:Value→Shared→Prop),Inv X pins σ H s→(∀b∈fp,zhZ X pins H b)→tn i s.heap→J.stop i H →
  wpAny (model P w) X.A (pyNext (.ref it)) (fun r s1=>r=none∧Inv X pins σ H s1) E s
 self:∀(A:Around) (i:Nat) (s:Shared) (Q:Value→Shared→Prop) (E:Value→Shared→Prop),tn i s.heap→Q (.ref it) s→wpAny (model P w) A (pyIter (.ref it)) Q E s
abbrev TI:=St→Hp→(It→Hp→Prop)→Prop
inductive PIE (X:Cx)(pins:List (Addr×Obj))(σ:St)(tg:Expr)(R:It→Hp→Prop)(itv:Value)(s2:Shared):Prop
 | mk (it:Addr) (fp:List Addr) (tn:Nat→Heap→Prop) (J:It) (H':Hp) (e:itv=.ref it) (I:Inv X pins σ H' s2) (T:Turn X.prog X.w X.K tg J fp it tn) (z:tn 0 s2.heap) (f:(∀b∈fp,zhZ X pins H' b)) (q:R J H')
def PI (X:Cx)(tg iter:Expr)(wi:TI):Prop :=
 ∀ (pins:List (Addr×Obj)) (s:Shared) (σ:St) (H:Hp) (R:It→Hp→Prop),Inv X pins σ H s→wi σ H R →
  wpAny (model X.prog X.w) X.A (eval iter X.env) (fun v s1=>wpAny (model X.prog X.w) X.A (pyIter v) (PIE X pins σ tg R) X.xe s1) X.xe s
theorem zgw {M:Model}{A:Around}{E:Value→Shared→Prop}{s:Shared}{tg:Expr}{it:Addr}{u:Value}{o:Obj}{n:String}{vs:Array Value}{Q:Unit→Shared→Prop}(ho:s.heap.get? it=some o)(hc:o.cls=.type n)(hd:o.data=.fields vs)
  (hn:["enumerate", "zip", "dict_itemiterator", "dict_reverseitemiterator", "odict_iterator", "itertools.zip_longest", "itertools.pairwise"].contains n=false) (hQ:Q () s):wpAny M A (letOwnedTupleGo tg (.ref it) u) Q E s:=by
 unfold letOwnedTupleGo
 cases tg <;>first
  | exact wpAny_pure hQ
  | (cases u <;>first
    | exact wpAny_pure hQ
    | (refine wpAny_bind (wpAny_load ho ?_)
       rw[hc,hd]
       show wpAny M A (if (["enumerate", "zip", "dict_itemiterator", "dict_reverseitemiterator", "odict_iterator", "itertools.zip_longest", "itertools.pairwise"].contains n&&vs[0]? == some (rawInt _))=true then _ else _) Q E s
       rw[if_neg (by intro h;rw[hn,Bool.false_and] at h;cases h)]
       exact wpAny_pure hQ))
def Itl (K:PySem.W.Frag)(a:Addr):It :=
 ⟨fun i H=>∃xs x,SqL K H a xs∧xs[i]? = some x,fun i H x H'=>H'=H∧∀xs,SqL K H a xs→xs[i]? = some x,fun i H=>∃xs,SqL K H a xs∧xs.length≤i⟩
def Itt (K:PySem.W.Frag)(a:Addr):It :=
 ⟨fun i H=>∃xs x,SqT K H a xs∧xs[i]? = some x,fun i H x H'=>H'=H∧∀xs,SqT K H a xs→xs[i]? = some x,fun i H=>∃xs,SqT K H a xs∧xs.length≤i⟩
def Itr (lo:Int)(n:Nat):It:=⟨fun i _=>i<n,fun i H x H'=>H'=H∧x=.int (lo+i),fun i _=>n≤i⟩
theorem zfz {P:Program}{w:World}{K:PySem.W.Frag}{tg:Expr}(a it:Addr):Turn P w K tg (Itl K a) [it] it (fun i h=>h.IsListIter it a i) where
 mem:=by simp
 obj:=fun i h st b hb=>by
  have e:b=it:=by simpa using hb
  subst e
  obtain⟨o,e,c,d⟩:=st
  exact⟨o,e,fun v z=>by rw[d] at z;cases z⟩
 keep:=fun i h h' st k=>st.at fun o e=>k it (by simp) o e
 item:=by
  intro X hP hw hK hc i pins s σ H E I hf st hg
  subst hP hw hK
  obtain⟨xs,x,hq,hx⟩:=hg
  obtain⟨its,rv,p,hz⟩:=I.list hq
  obtain⟨u,hu,ru⟩:=rv.get hx
  obtain⟨f0,f1,f2,f3,f4,f5⟩:=hf it (by simp)
  refine wpAny_pyNext_list_item st p.isList (x:=u) (by simpa using hu) fun h' st' sb=>?_
  have I1:Inv X pins σ H {s with heap:=h'}:=I.turned (t':=s.toks) (fun b o hb e=>(sb.2 b hb).trans e) f0 f1 f3 f4 f5
  obtain⟨o,e,c,d⟩:=id st'
  exact⟨u,rfl,zgw (s:={s with heap:=h'}) e c d (by decide) ⟨x,H,I1,ru,⟨rfl,fun ys hy=>by rw[I.list_inj hy hq];exact hx⟩,st',fun b hb=>(hf b hb).1⟩⟩
 done:=by
  intro X hP hw hK hc i pins s σ H E I hf st hg
  subst hP hw hK
  obtain⟨xs,hq,hx⟩:=hg
  obtain⟨its,rv,p,hz⟩:=I.list hq
  obtain⟨f0,f1,f2,f3,f4,f5⟩:=hf it (by simp)
  have hl:=rv.length
  exact wpAny_pyNext_list_end (I.ok.hd hc) st p.isList (by simp;omega) fun h' eb=>⟨rfl,I.turned (t':=s.toks) (fun b o hb e=>eb b o hb e) f0 f1 f3 f4 f5⟩
 self:=fun _ _ _ _ _ st h=>wpAny_pyIter_listiter st h
theorem zfw {P:Program}{w:World}{K:PySem.W.Frag}{tg:Expr}(a it:Addr):Turn P w K tg (Itt K a) [it] it (fun i h=>h.IsTupleIter it a i) where
 mem:=by simp
 obj:=fun i h st b hb=>by
  have e:b=it:=by simpa using hb
  subst e
  obtain⟨o,e,c,d⟩:=st
  exact⟨o,e,fun v z=>by rw[d] at z;cases z⟩
 keep:=fun i h h' st k=>st.at fun o e=>k it (by simp) o e
 item:=by
  intro X hP hw hK hc i pins s σ H E I hf st hg
  subst hP hw hK
  obtain⟨xs,x,hq,hx⟩:=hg
  obtain⟨its,rv,p,hz⟩:=I.tuple hq
  obtain⟨u,hu,ru⟩:=rv.get hx
  obtain⟨f0,f1,f2,f3,f4,f5⟩:=hf it (by simp)
  refine wpAny_pyNext_tuple_item st (show s.heap.IsTuple a its.toArray from p) (x:=u) (by simpa using hu) fun h' st' sb=>?_
  have I1:Inv X pins σ H {s with heap:=h'}:=I.turned (t':=s.toks) (fun b o hb e=>(sb.2 b hb).trans e) f0 f1 f3 f4 f5
  obtain⟨o,e,c,d⟩:=id st'
  exact⟨u,rfl,zgw (s:={s with heap:=h'}) e c d (by decide) ⟨x,H,I1,ru,⟨rfl,fun ys hy=>by rw[I.tuple_inj hy hq];exact hx⟩,st',fun b hb=>(hf b hb).1⟩⟩
 done:=by
  intro X hP hw hK hc i pins s σ H E I hf st hg
  subst hP hw hK
  obtain⟨xs,hq,hx⟩:=hg
  obtain⟨its,rv,p,hz⟩:=I.tuple hq
  obtain⟨f0,f1,f2,f3,f4,f5⟩:=hf it (by simp)
  have hl:=rv.length
  exact wpAny_pyNext_tuple_end (I.ok.hd hc) st (show s.heap.IsTuple a its.toArray from p) (by simp;omega) fun h' eb=>⟨rfl,I.turned (t':=s.toks) (fun b o hb e=>eb b o hb e) f0 f1 f3 f4 f5⟩
 self:=fun _ _ _ _ _ st h=>wpAny_pyIter_tupleiter st h
theorem zfb {P:Program}{w:World}{K:PySem.W.Frag}{tg:Expr}(it:Addr)(lo:Int)(n:Nat):Turn P w K tg (Itr lo n) [it] it (fun i h=>IsRangeIter h it (lo+(i:Nat)*1) ((n:Int) - (i:Nat)) 1) where
 mem:=by simp
 obj:=fun i h st b hb=>by
  have e:b=it:=by simpa using hb
  subst e
  exact ⟨_,st,fun v z=>by
   have z':Data.fields _=Data.cell v:=z
   cases z'⟩
 keep:=fun i h h' st k=>k it (by simp) _ st
 item:=by
  intro X hP hw hK hc i pins s σ H E I hf st hg
  subst hP hw hK
  obtain⟨f0,f1,f2,f3,f4,f5⟩:=hf it (by simp)
  have W:=Walks.range (prog:=X.prog) (w:=X.w) (I.ok.hd hc) it lo 1 n
  refine W.item i s _ _ hg st fun v h' tk hv st' kk=>?_
  obtain⟨t,rfl⟩:=hv
  have I1:Inv X pins σ H {s with heap:=h',toks:=tk}:=I.turned (fun b o hb e=>kk b o (by simpa using hb) e) f0 f1 f3 f4 f5
  refine⟨_,rfl,zgw (s:={s with heap:=h',toks:=tk}) (n := "range_iterator") st' rfl rfl (by decide) ⟨.int (lo+i),H,I1,⟨t,?_⟩,⟨rfl,rfl⟩,st',fun b hb=>(hf b hb).1⟩⟩
  rw[Int.mul_one]
 done:=by
  intro X hP hw hK hc i pins s σ H E I hf st hg
  subst hP hw hK
  obtain⟨f0,f1,f2,f3,f4,f5⟩:=hf it (by simp)
  exact wpAny_pyNext_range_end (I.ok.hd hc) st (by have:n≤i:=hg;omega) fun h' eb=>⟨rfl,I.turned (t':=s.toks) (fun b o hb e=>eb b o hb e) f0 f1 f3 f4 f5⟩
 self:=fun _ _ _ _ _ st h=>wpAny_pyIter_rangeiter st h
end L2
namespace L2
open PySem PySem.Spec PyProof.Rows
section
variable {X:Cx}{tg:Expr}
def zmK (K:PySem.W.Frag)(tl:TE):TI:=fun σ H R=>tl σ H fun x H1=>∃a,x=.ref a∧(∃xs,SqL K H1 a xs)∧R (Itl K a) H1
def znl (K:PySem.W.Frag)(tl:TE):TI:=fun σ H R=>tl σ H fun x H1=>∃a,x=.ref a∧(∃xs,SqT K H1 a xs)∧R (Itt K a) H1
theorem zje {l:Expr}{tl:TE}(hl:PE X l tl):PI X tg l (zmK X.K tl):=by
 intro pins s σ H R I h
 refine thn (hl pins s σ H _ I h) fun v s1 hq11=>?_
 obtain⟨x,H1,I1,r1,q1⟩:=hq11
 obtain⟨a,e,⟨xs,hq⟩,q⟩:=q1
 subst e
 cases r1
 obtain⟨its,rv,p,hz⟩:=I1.list hq
 refine wpAny_pyIter_list p.isList ?_
 refine⟨s1.heap.objs.size,[s1.heap.objs.size],_,_,H1,rfl,I1.kept (t':=s1.toks) fun b o e=>Heap.get?_push_of_some _ e,zfz a _,⟨_,Heap.get?_push_size _ rfl,rfl,rfl⟩,fun b hb=>?_,q⟩
 have e:b=s1.heap.objs.size:=by simpa using hb
 subst e
 exact I1.fpOk (Nat.le_refl _) (I1.hok.fresh (Nat.le_refl _))
theorem zkE {l:Expr}{tl:TE}(hl:PE X l tl):PI X tg l (znl X.K tl):=by
 intro pins s σ H R I h
 refine thn (hl pins s σ H _ I h) fun v s1 hq12=>?_
 obtain⟨x,H1,I1,r1,q1⟩:=hq12
 obtain⟨a,e,⟨xs,hq⟩,q⟩:=q1
 subst e
 cases r1
 obtain⟨its,rv,p,hz⟩:=I1.tuple hq
 refine wpAny_pyIter_tuple (show s1.heap.IsTuple a its.toArray from p) ?_
 refine⟨s1.heap.objs.size,[s1.heap.objs.size],_,_,H1,rfl,I1.kept (t':=s1.toks) fun b o e=>Heap.get?_push_of_some _ e,zfw a _,⟨_,Heap.get?_push_size _ rfl,rfl,rfl⟩,fun b hb=>?_,q⟩
 have e:b=s1.heap.objs.size:=by simpa using hb
 subst e
 exact I1.fpOk (Nat.le_refl _) (I1.hok.fresh (Nat.le_refl _))
theorem zhL {pins:List (Addr×Obj)}{σ:St}{H:Hp}{s:Shared}{R:It→Hp→Prop}{E:Value→Shared→Prop}{lo hi:Int}{t u v:Tok}{tk:Nat}(I:Inv X pins σ H s)(h1:-(2 ^ 62)≤lo)(h2:lo<2 ^ 62)(h3:-(2 ^ 62)≤hi)(h4:hi<2 ^ 62)
  (q:R (Itr lo (hi - lo).toNat) H):wpAny (model X.prog X.w) X.A (pyIter (.ref s.heap.objs.size)) (PIE X pins σ tg R) E {s with heap:=s.heap.push {cls:=.type "range", data:=.fields #[.int lo t,.int hi u,.int 1 v]},toks:=tk}:=by
 refine wpAny_pyIter_range (IsRange.new ..) (small_one h1 h2 h3 h4) ?_
 have I1:Inv X pins σ H {s with heap:=s.heap.push {cls:=.type "range", data:=.fields #[.int lo t,.int hi u,.int 1 v]},toks:=tk}:=I.kept fun b o e=>Heap.get?_push_of_some _ e
 refine ⟨(s.heap.push {cls:=.type "range", data:=.fields #[.int lo t,.int hi u,.int 1 v]}).objs.size,[(s.heap.push {cls:=.type "range", data:=.fields #[.int lo t,.int hi u,.int 1 v]}).objs.size],_,_,H,rfl,
  I1.kept (t':=tk) fun b o e=>Heap.get?_push_of_some _ e,zfb _ lo (hi - lo).toNat,?_,fun b hb=>?_,q⟩
 ·have e1:lo+((0:Nat):Int)*1=lo:=by simp
  have e2:(((hi - lo).toNat:Nat):Int) - ((0:Nat):Int)=Builtin.Range.rangeSize lo hi 1:=by rw[rangeSize_one];split <;>omega
  show IsRangeIter _ _ (lo+((0:Nat):Int)*1) ((((hi - lo).toNat:Nat):Int) - ((0:Nat):Int)) 1
  rw[e1,e2]
  exact Heap.get?_push_size _ rfl
 ·have e:b=(s.heap.push {cls:=.type "range", data:=.fields #[.int lo t,.int hi u,.int 1 v]}).objs.size:=by simpa using hb
  subst e
  exact I1.fpOk (Nat.le_refl _) (I1.hok.fresh (Nat.le_refl _))
def zmk (ta:TA):TI:=fun σ H R=>ta σ H fun vs H1=>∃j:Int,vs=[.int j]∧-(2 ^ 62)≤j∧j<2 ^ 62∧R (Itr 0 j.toNat) H1
theorem zgF {a:Expr}{ta:TA}{p pos:Pos}(hg:Gl X "range")(hm:X.mg "range" = none)(ha:PA X [a] ta)(hs:starEach [a] X.env=[(false,eval a X.env)]:=by rfl):PI X tg (.Call (.Name "range" p) [a] [] pos) (zmk ta):=by
 intro pins s σ H R I h
 refine Call_ (zaj I hg hm boot_range (PyProof.Rows.callWith_type1 (thn (ha pos pins s σ H _ I h) fun us s1 ⟨vs,H1,I1,r1,q1⟩=>?_) hs rfl))
 obtain⟨j,e,q1,q2,q⟩:=q1
 subst e
 cases r1 with
 | cons r rr =>
  cases rr
  obtain⟨t,rfl⟩:=r
  exact call_range_1 (zhL I1 (by omega) (by omega) q1 q2 (by simpa using q))
def znt (wi:TI)(g:TG)(tb:TS):TS:=fun D σ H=>wi σ H fun J H1=>∃W:Nat→Nat→St→Hp→Prop,(∃m,W 0 m σ H1)∧∀i m σ H,W i m σ H →
 (J.stop i H∧D.nx σ H)∨(J.go i H∧∃N:St→Hp→Prop,(∀σ' H',N σ' H'→∃m',m'<m∧W (i+1) m' σ' H')∧∀x H',J.yld i H x H'→g x σ H' fun σ2 H2=>tb {D with nx:=N,ct:=N,bk:=D.nx} σ2 H2)
def za2 (fp:List Addr)(h:Heap):List (Addr×Obj):=fp.filterMap fun b=>(h.get? b).map fun o=>(b,o)
theorem kj {fp:List Addr}{h:Heap}{b:Addr}{o:Obj}(hb:b∈fp)(e:h.get? b=some o):(b,o)∈za2 fp h:=List.mem_filterMap.mpr ⟨b,hb,by rw[e];rfl⟩
theorem zds {fp:List Addr}{h:Heap}{p:Addr×Obj}(hp:p∈za2 fp h):p.1∈fp∧h.get? p.1=some p.2:=by
 obtain⟨b,hb,e⟩:=List.mem_filterMap.mp hp
 cases q:h.get? b with
 | none=>rw[q] at e;cases e
 | some o =>
  rw[q] at e
  have e':(b,o)=p:=Option.some.inj e
  subst e'
  exact⟨hb,q⟩
theorem Inv.pinned {pins:List (Addr×Obj)}{σ:St}{H:Hp}{s:Shared}{fp:List Addr}(I:Inv X pins σ H s)(hf:∀b∈fp,zhZ X pins H b)(ho:∀b∈fp,∃o,s.heap.get? b=some o∧∀v,o.data≠.cell v):Inv X (pins++za2 fp s.heap) σ H s :=
 I.pins_of fun p hp=>(List.mem_append.mp hp).elim (fun z=>I.pin p (List.mem_append_right _ z)) fun z=>by
  obtain⟨hb,e⟩:=zds z
  obtain⟨f0,f1,f2,_⟩:=hf p.1 hb
  obtain⟨o,e',d⟩:=ho p.1 hb
  rw[e] at e';cases e'
  exact⟨e,f0,f1,f2,d⟩
theorem Inv.unpinned {pins pl:List (Addr×Obj)}{σ:St}{H:Hp}{s:Shared}(I:Inv X (pins++pl) σ H s):Inv X pins σ H s:=I.pins_of fun p hp=>I.pin p (List.mem_append_right _ (List.mem_append_left _ hp))
theorem ziI {iter:Expr}{body:List Stmt}{wi:TI}{g:TG}{tb:TS}{pos:Pos}(hp:PassesOwn (model X.prog X.w) X.A X.env X.xe)(hc:X.calm=true)(hi:PI X tg iter wi)(hg:PG X tg g)(hb:PSs X body tb)
  (hs:∀x,foldedSetIterable iter X.env x=pure x:=by intro _;rfl):PS X (.For tg iter body [] pos) (znt wi g tb):=by
 intro pins s σ H D I h
 refine wpAny_For (thn (hi pins s σ H _ I h) fun v s1 h1=>thn h1 fun itv s2 h2=>?_) hs
 obtain⟨it,fp,tn,J,H2,e,I2,T,st2,f2,W,⟨m0,w0⟩,turn⟩:=h2
 subst e
 have stat:∀{H':Hp},(∀b∈fp,H' b=none)→∀b∈fp,zhZ X pins H' b:=fun hn b hb=>⟨hn b hb,(f2 b hb).2⟩
 refine codeAny_forLoop_any (fun n s'=>∃i σ' H',Inv X pins σ' H' s'∧tn i s'.heap∧(∀b∈fp,H' b=none)∧W i n σ' H') ?_ m0 ⟨0,σ,H2,I2,st2,fun b hb=>(f2 b hb).1,w0⟩
 rintro n s3 ⟨i,σ3,H3,I3,st3,fr3,w3⟩
 rcases turn i n σ3 H3 w3 with⟨stop,qn⟩|⟨go,N,hN,step⟩
 ·refine wpAny_passesOwn hp (thn (T.done X rfl rfl rfl hc i pins s3 σ3 H3 X.xe I3 (stat fr3) st3 stop) fun r s4 hq13=>?_)
  obtain⟨hr,I4⟩:=hq13
  subst hr
  exact wpAny_execs_nil ⟨σ3,H3,I4,qn⟩
 ·refine wpAny_passesOwn hp (thn (T.item X rfl rfl rfl hc i pins s3 σ3 H3 X.xe I3 (stat fr3) st3 go) fun r s4 hq14=>?_)
  obtain⟨u,hr,h4⟩:=hq14
  subst hr
  refine wpAny_passesOwn hp (thn h4 fun _ s5 hq15=>?_)
  obtain⟨x,H5,I5,r5,y5,st5,fr5⟩:=hq15
  have I5':=I5.pinned (stat fr5) (T.obj _ _ st5)
  refine wpAny_passesOwn hp (thn (hg _ s5 σ3 H5 x u _ I5' r5 (step x H5 y5)) fun _ s6 hq16=>?_)
  obtain⟨σ6,H6,I6,q6⟩:=hq16
  refine wpAny_passesOwn hp (thn (hb _ s6 σ6 H6 _ I6 q6) fun f s7 q7=>?_)
  have again:∀{σ7:St}{H7:Hp},Inv X (pins++za2 fp s5.heap) σ7 H7 s7→N σ7 H7→∃m,m<n∧∃i σ' H',Inv X pins σ' H' s7∧tn i s7.heap∧(∀b∈fp,H' b=none)∧W i m σ' H':=fun {σ7 H7} I7 n7=>by
   obtain⟨m',hm,w7⟩:=hN σ7 H7 n7
   refine⟨m',hm,i+1,σ7,H7,I7.unpinned,T.keep _ _ _ st5 fun b hb o e=>(I7.pin (b,o) (List.mem_append_right _ (List.mem_append_right _ (kj hb e)))).1,fun b hb=>?_,w7⟩
   obtain⟨o,e,d⟩:=T.obj _ _ st5 b hb
   exact(I7.pin (b,o) (List.mem_append_right _ (List.mem_append_right _ (kj hb e)))).2.1
  cases f with
  | next=>obtain⟨σ7,H7,I7,n7⟩:=q7;exact again I7 n7
  | cont=>obtain⟨σ7,H7,I7,n7⟩:=q7;exact again I7 n7
  | brk=>obtain⟨σ7,H7,I7,q7⟩:=q7;exact⟨σ7,H7,I7.unpinned,q7⟩
  | ret v=>obtain⟨x7,σ7,H7,I7,r7,q7⟩:=q7;exact⟨x7,σ7,H7,I7.unpinned,r7,q7⟩
end
end L2
namespace L2
open PySem PySem.Spec PyProof.Rows
abbrev R2:=V→V→Hp→VK→Prop
def OpR (X:Cx)(f:Value→Value→Sem Value)(r:R2):Prop :=
 ∀ (pins:List (Addr×Obj)) (s:Shared) (σ:St) (H:Hp) (x y:V) (v u:Value) (Q:VK),Inv X pins σ H s→RelV x v→RelV y u→r x y H Q →
  wpAny (model X.prog X.w) X.A (f v u) (EP X pins σ Q) X.xe s
def UnR (X:Cx)(f:Value→Sem Value)(r:V→Hp→VK→Prop):Prop :=
 ∀ (pins:List (Addr×Obj)) (s:Shared) (σ:St) (H:Hp) (x:V) (v:Value) (Q:VK),Inv X pins σ H s→RelV x v→r x H Q →
  wpAny (model X.prog X.w) X.A (f v) (EP X pins σ Q) X.xe s
def qR (X:Cx)(f:Value)(r:List V→Hp→VK→Prop):Prop :=
 ∀ (pins:List (Addr×Obj)) (s:Shared) (σ:St) (H:Hp) (xs:List V) (us:List Value) (Q:VK),Inv X pins σ H s→Vals xs us→r xs H Q →
  wpAny (model X.prog X.w) X.A (call f us) (EP X pins σ Q) X.xe s
def tOp (r:R2)(ta tb:TE):TE:=fun σ H Q=>ta σ H fun x H1=>tb σ H1 fun y H2=>r x y H2 Q
def tUn (r:V→Hp→VK→Prop)(ta:TE):TE:=fun σ H Q=>ta σ H fun x H1=>r x H1 Q
def rI (C:Int→Int→Prop)(g:Int→Int→V):R2:=fun x y H Q=>∃i j,x=.int i∧y=.int j∧C i j∧Q (g i j) H
def rI0 (g:Int→Int→V):R2:=fun x y H Q=>∃i j,x=.int i∧y=.int j∧Q (g i j) H
def rU (g:Int→V):V→Hp→VK→Prop:=fun x H Q=>∃i,x=.int i∧Q (g i) H
section
variable {X:Cx}{a b c:Expr}{ta tb tc:TE}{pos:Pos}
theorem zmv (ha:PE X a ta)(hb:PE X b tb){pins:List (Addr×Obj)}{s:Shared}{σ:St}{H:Hp}{R:V→V→Hp→Prop}(I:Inv X pins σ H s)
  (h:ta σ H fun x H1=>tb σ H1 fun y H2=>R x y H2) {Q:Value→Shared→Prop}{f:Value→Value→Sem Value}
  (hf:∀v u s2 x y H2,Inv X pins σ H2 s2→RelV x v→RelV y u→R x y H2→wpAny (model X.prog X.w) X.A (f v u) Q X.xe s2) :
  wpAny (model X.prog X.w) X.A (eval a X.env) (fun v s₁=>wpAny (model X.prog X.w) X.A (eval b X.env) (fun u s₂=>wpAny (model X.prog X.w) X.A (f v u) Q X.xe s₂) X.xe s₁) X.xe s:=by
 refine thn (ha pins s σ H _ I h) fun v s1 hq17=>?_
 obtain⟨x,H1,I1,r1,q1⟩:=hq17
 refine thn (hb pins s1 σ H1 _ I1 q1) fun u s2 hq18=>?_
 obtain⟨y,H2,I2,r2,q2⟩:=hq18
 exact hf v u s2 x y H2 I2 r1 r2 q2
theorem zkf {op:Operator}{r:R2}(ho:OpR X (binaryOp op) r)(ha:PE X a ta)(hb:PE X b tb):PE X (.BinOp a op b pos) (tOp r ta tb):=by
 intro pins s σ H Q I h
 exact wpAny_BinOp (zmv ha hb I h fun v u s2 x y H2 I2 rx ry q=>ho pins s2 σ H2 x y v u Q I2 rx ry q)
theorem zmz {op:UnaryOp}{r:V→Hp→VK→Prop}(ho:UnR X (unaryOp op) r)(ha:PE X a ta):PE X (.UnaryOp op a pos) (tUn r ta):=by
 intro pins s σ H Q I h
 exact UnaryOp_ (thn (ha pins s σ H _ I h) fun v s1 ⟨x,H1,I1,r1,q1⟩=>ho pins s1 σ H1 x v Q I1 r1 q1)
theorem opI {f:Value→Value→Sem Value}{C:Int→Int→Prop}{g:Int→Int→Int}
  (rule:∀(i j:Int) (t u:Tok) (s:Shared) (Q:Value→Shared→Prop) (E:Value→Shared→Prop),C i j→Q (.int (g i j) s.toks) {s with toks:=s.toks+1}→wpAny (model X.prog X.w) X.A (f (.int i t) (.int j u)) Q E s) :
  OpR X f (rI C fun i j=>.int (g i j)):=by
 intro pins s σ H x y v u Q I rx ry h
 obtain⟨i,j,rfl,rfl,hc,q⟩:=h
 obtain⟨t,rfl⟩:=rx
 obtain⟨t',rfl⟩:=ry
 exact rule i j t t' s _ _ hc ⟨.int (g i j),H,I.tok _,⟨_,rfl⟩,q⟩
theorem zmU {f:Value→Value→Sem Value}{g:Int→Int→Int}
  (rule:∀(i j:Int) (t u:Tok) (s:Shared) (Q:Value→Shared→Prop) (E:Value→Shared→Prop),Q (.int (g i j) s.toks) {s with toks:=s.toks+1}→wpAny (model X.prog X.w) X.A (f (.int i t) (.int j u)) Q E s) :
  OpR X f (rI0 fun i j=>.int (g i j)):=by
 intro pins s σ H x y v u Q I rx ry h
 obtain⟨i,j,rfl,rfl,q⟩:=h
 obtain⟨t,rfl⟩:=rx
 obtain⟨t',rfl⟩:=ry
 exact rule i j t t' s _ _ ⟨.int (g i j),H,I.tok _,⟨_,rfl⟩,q⟩
theorem zm0 {f:Value→Value→Sem Value}{g:Int→Int→Bool}
  (rule:∀(i j:Int) (t u:Tok) (s:Shared) (Q:Value→Shared→Prop) (E:Value→Shared→Prop),Q (.bool (g i j)) s→wpAny (model X.prog X.w) X.A (f (.int i t) (.int j u)) Q E s) :
  OpR X f (rI0 fun i j=>.bl (g i j)):=by
 intro pins s σ H x y v u Q I rx ry h
 obtain⟨i,j,rfl,rfl,q⟩:=h
 obtain⟨t,rfl⟩:=rx
 obtain⟨t',rfl⟩:=ry
 exact rule i j t t' s _ _ ⟨.bl (g i j),H,I,rfl,q⟩
def CMul (i j:Int):Prop:=(-(2 ^ 64)<i∧i<2 ^ 64)∨(-(2 ^ 64)<j∧j<2 ^ 64)
theorem CMul.ok {i j:Int}(h:CMul i j):IntMulOk i j:=by
 rcases h with⟨h1,h2⟩|⟨h1,h2⟩
 ·exact .of_left (intBits_le_64 h1 h2)
 ·exact .of_right (intBits_le_64 h1 h2)
theorem vg:OpR X (binaryOp .Add) (rI0 fun i j=>.int (i+j)):=zmU fun _ _ _ _ _ _ _ q=>add_int q
theorem zlV:OpR X (binaryOp .Sub) (rI0 fun i j=>.int (i - j)):=zmU fun _ _ _ _ _ _ _ q=>sub_int q
theorem jB:OpR X (binaryOp .Mod) (rI (fun _ j=>0<j) fun i j=>.int (i % j)):=opI fun i j _ _ _ _ _ hc q=>by
 have h1:(0:Int)<j:=hc
 exact mod_int' (by omega) (by rw[Int.fmod_eq_emod_of_nonneg i (by omega)];exact q)
theorem unI {f:Value→Sem Value}{g:Int→Int}
  (rule:∀(i:Int) (t:Tok) (s:Shared) (Q:Value→Shared→Prop) (E:Value→Shared→Prop),Q (.int (g i) s.toks) {s with toks:=s.toks+1}→wpAny (model X.prog X.w) X.A (f (.int i t)) Q E s) :
  UnR X f (rU fun i=>.int (g i)):=by
 intro pins s σ H x v Q I rx h
 obtain⟨i,rfl,q⟩:=h
 obtain⟨t,rfl⟩:=rx
 exact rule i t s _ _ ⟨.int (g i),H,I.tok _,⟨_,rfl⟩,q⟩
theorem zky:UnR X (unaryOp .USub) (rU fun i=>.int (-i)):=unI fun _ _ _ _ _ q=>neg_int q
end
section
variable {X:Cx}{a b c:Expr}{ta tb tc:TE}{pos:Pos}
theorem zeo {pins:List (Addr×Obj)}{σ:St}{H:Hp}{s:Shared}{Q:VK}{k k':Bool}(I:Inv X pins σ H s)(q:Q (.bl k) H)(e:k=k'):EP X pins σ Q (.bool k') s:=by
 subst e
 exact⟨.bl k,H,I,rfl,q⟩
theorem zlr:OpR X (compareOp .Lt) (rI0 fun i j=>.bl (decide (i<j))):=zm0 fun _ _ _ _ _ _ _ q=>lt_int q
theorem zhu:OpR X (compareOp .LtE) (rI0 fun i j=>.bl (decide (i≤j))):=zm0 fun _ _ _ _ _ _ _ q=>le_int q
theorem zhe:OpR X (compareOp .Lt) (fun x y H Q=>∃i j,x=.str i∧y=.str j∧Q (.bl (decide (i.cps.toList<j.cps.toList))) H):=by
 intro pins s σ H x y v u Q I rx ry h
 obtain⟨i,j,rfl,rfl,q⟩:=h
 obtain⟨t,rfl⟩:=rx
 obtain⟨t',rfl⟩:=ry
 exact lt_str (zeo I q rfl)
theorem xu (b:Expr){op:CmpOp}(h:op≠.In:=by decide)(h2:op≠.NotIn:=by decide):behindInMarks op b=false:=by
 have e1:(op == CmpOp.In)=false:=by cases op <;>first|rfl|exact absurd rfl h
 have e2:(op == CmpOp.NotIn)=false:=by cases op <;>first|rfl|exact absurd rfl h2
 cases b <;>simp[behindInMarks,e1,e2]
theorem zjm {op:CmpOp}{r:R2}(ho:OpR X (compareOp op) r)(ha:PE X a ta)(hb:PE X b tb)(hm:behindInMarks op b=false):PE X (.Compare a [op] [b] pos) (tOp r ta tb):=by
 intro pins s σ H Q I h
 exact wpAny_Compare1 (zmv ha hb I h fun v u s2 x y H2 I2 rx ry q=>ho pins s2 σ H2 x y v u Q I2 rx ry q) hm
def zk8 (t:TE):TT:=fun σ H Q=>t σ H fun x H'=>∃k,x=.bl k∧Q k H'
theorem zkg {op:CmpOp}{r:R2}(ho:OpR X (compareOp op) r)(ha:PE X a ta)(hb:PE X b tb)(hm:behindInMarks op b=false):PT X (.Compare a [op] [b] pos) (zk8 (tOp r ta tb)):=by
 intro pins s σ H Q I h
 refine wpAny_isTrue_Compare1 (thn (ha pins s σ H _ I h) fun v s1 ⟨x,H1,I1,r1,q1⟩=>thn (hb pins s1 σ H1 _ I1 q1) fun u s2 ⟨y,H2,I2,r2,q2⟩ =>
  thn (ho pins s2 σ H2 x y v u _ I2 r1 r2 q2) fun c s3 ⟨z,H3,I3,r3,k,e,q3⟩=>?_) hm
 subst e
 cases r3
 exact wpAny_truthy_bool ⟨H3,I3,q3⟩
def zga (r r':R2)(ta tb tc:TE):TE:=fun σ H Q=>ta σ H fun x H1=>tb σ H1 fun y H2=>r x y H2 fun z H3=>∃k,z=.bl k ∧
 (if k=true then tc σ H3 fun w' H4=>r' y w' H4 Q else Q (.bl false) H3)
theorem zht {op op':CmpOp}{r r':R2}(ho:OpR X (compareOp op) r)(ho':OpR X (compareOp op') r')(ha:PE X a ta)(hb:PE X b tb)(hc:PE X c tc)
  (hm:lastMarks [op,op'] [b,c]=false:=by with_unfolding_all rfl):PE X (.Compare a [op,op'] [b,c] pos) (zga r r' ta tb tc):=by
 intro pins s σ H Q I h
 refine Compare_chain (thn (ha pins s σ H _ I h) fun v s1 ⟨x,H1,I1,r1,q1⟩=>chain_link (thn (hb pins s1 σ H1 _ I1 q1) fun u s2 ⟨y,H2,I2,r2,q2⟩ =>
  thn (ho pins s2 σ H2 x y v u _ I2 r1 r2 q2) fun d s3 ⟨z,H3,I3,r3,k,e,q3⟩=>?_)) hm
 subst e
 cases r3
 refine wpAny_truthy_bool ?_
 cases k with
 | false=>exact ite_ff ⟨.bl false,H3,I3,rfl,q3⟩
 | true=>exact ite_tt (chain_last (thn (hc pins s3 σ H3 _ I3 q3) fun w' s4 ⟨z',H4,I4,r4,q4⟩=>ho' pins s4 σ H4 y z' u w' Q I4 r2 r4 q4))
theorem zhx {op op':CmpOp}{r r':R2}(ho:OpR X (compareOp op) r)(ho':OpR X (compareOp op') r')(ha:PE X a ta)(hb:PE X b tb)(hc:PE X c tc)
  (hm:lastMarks [op,op'] [b,c]=false:=by with_unfolding_all rfl):PT X (.Compare a [op,op'] [b,c] pos) (zk8 (zga r r' ta tb tc)):=by
 intro pins s σ H Q I h
 refine isTrue_chain (thn (ha pins s σ H _ I h) fun v s1 ⟨x,H1,I1,r1,q1⟩=>test_link (thn (hb pins s1 σ H1 _ I1 q1) fun u s2 ⟨y,H2,I2,r2,q2⟩ =>
  thn (ho pins s2 σ H2 x y v u _ I2 r1 r2 q2) fun d s3 ⟨z,H3,I3,r3,k,e,q3⟩=>?_)) hm
 subst e
 cases r3
 refine wpAny_truthy_bool ?_
 cases k with
 | false =>
  obtain⟨k',e',q'⟩:=q3
  cases e'
  exact ite_ff ⟨H3,I3,q'⟩
 | true =>
  refine ite_tt (test_last (thn (hc pins s3 σ H3 _ I3 q3) fun w' s4 ⟨z',H4,I4,r4,q4⟩=>thn (ho' pins s4 σ H4 y z' u w' _ I4 r2 r4 q4) fun d' s5 hq19=>?_))
  obtain⟨z2,H5,I5,r5,k2,e2,q5⟩:=hq19
  subst e2
  cases r5
  exact wpAny_truthy_bool ⟨H5,I5,q5⟩
theorem zeY:(sizeLine:Nat)<2 ^ 63:=by rw[sizeLine_eq];decide
theorem zfk:OpR X (binaryOp .Add) (fun x y H Q=>∃i j,x=.str i∧y=.str j∧i.length+j.length≤sizeLine∧Q (.str (i++j)) H):=by
 intro pins s σ H x y v u Q I rx ry h
 obtain⟨i,j,rfl,rfl,hz,q⟩:=h
 obtain⟨t,rfl⟩:=rx
 obtain⟨t',rfl⟩:=ry
 exact add_str (fun t' tk=>⟨.str (i++j),H,I.tok _,⟨_,rfl⟩,q⟩) hz
theorem vals1 {x:V}{us:List Value}(r:Vals [x] us):∃u,us=[u]∧RelV x u:=by
 cases r with
 | cons r1 r2=>cases r2;exact⟨_,rfl,r1⟩
theorem vals2 {x y:V}{us:List Value}(r:Vals [x,y] us):∃u w',us=[u,w']∧RelV x u∧RelV y w':=by
 cases r with
 | cons r1 r2 =>
  cases r2 with
  | cons r3 r4=>cases r4;exact⟨_,_,rfl,r1,r3⟩
theorem zhb (hc:X.calm=true):qR X (.builtin "max") (fun xs H Q=>∃i j,xs=[.int i,.int j]∧Q (.int (if j > i then j else i)) H):=by
 intro pins s σ H xs us Q I r h
 obtain⟨i,j,rfl,q⟩:=h
 obtain⟨u,w',rfl,⟨t,rfl⟩,⟨t',rfl⟩⟩:=vals2 r
 refine max_two_ints (I.ok.hd hc) fun h' tk k=>⟨_,H,I.kept k,?_,q⟩
 by_cases hj:j > i
 ·rw[if_pos hj,if_pos hj];exact⟨_,rfl⟩
 ·rw[if_neg hj,if_neg hj];exact⟨_,rfl⟩
theorem zcM:qR X (.type "str") (fun xs H Q=>∃i,xs=[.int i]∧i.natAbs.log2<1920∧Q (.str (toString i)) H):=by
 intro pins s σ H xs us Q I r h
 obtain⟨i,rfl,hz,q⟩:=h
 obtain⟨u,rfl,t,rfl⟩:=vals1 r
 exact PySem.P.str_of_int hz ⟨.str _,H,I.tok _,⟨_,rfl⟩,q⟩
def zm1 (K:PySem.W.Frag)(x:V)(H:Hp)(n:Nat):Prop :=
 match x with
 | .str y=>y.length≤sizeLine∧n=y.length
 | .byt y=>y.size≤sizeLine∧n=y.size
 | .ref p=>(∃xs,SqL K H p xs∧n=xs.length)∨∃xs,SqT K H p xs∧n=xs.length
 | _=>False
theorem zZ:qR X (.builtin "len") (fun xs H Q=>∃x n,xs=[x]∧zm1 X.K x H n∧Q (.int n) H):=by
 intro pins s σ H xs us Q I r h
 obtain⟨x,n,rfl,e,q⟩:=h
 obtain⟨u,rfl,rx⟩:=vals1 r
 have hl:=zeY
 have hs:sizeLine=16777216:=sizeLine_eq
 cases x with
 | str y =>
  obtain⟨t,rfl⟩:=rx
  obtain⟨hy,e'⟩:y.length≤sizeLine∧n=y.length:=e
  subst e'
  exact len_str (by omega) ⟨.int _,H,I.tok _,⟨_,rfl⟩,q⟩
 | byt y =>
  obtain⟨t,rfl⟩:=rx
  obtain⟨hy,e'⟩:y.size≤sizeLine∧n=y.size:=e
  subst e'
  exact PySem.W.len_bytes (by omega) ⟨.int _,H,I.tok _,⟨_,rfl⟩,q⟩
 | ref p =>
  cases rx
  have e':(∃xs,SqL X.K H p xs∧n=xs.length)∨∃xs,SqT X.K H p xs∧n=xs.length:=e
  rcases e' with⟨xs,hx,e'⟩|⟨xs,hx,e'⟩
  ·subst e'
   obtain⟨its,r',pl,hz⟩:=I.list hx
   have hlen:=r'.length
   exact Calls.call_len_list pl.isList (by simp only[List.size_toArray];omega) ⟨.int xs.length,H,I.tok _,⟨_,by simp only[List.size_toArray];rw[hlen]⟩,q⟩
  ·subst e'
   obtain⟨its,r',pl,hz⟩:=I.tuple hx
   have hlen:=r'.length
   exact len_tuple pl (by simp only[List.size_toArray];omega) ⟨.int xs.length,H,I.tok _,⟨_,by simp only[List.size_toArray];rw[hlen]⟩,q⟩
 | _=>exact(show False from e).elim
end
end L2
namespace L2
open PySem PySem.Spec PyProof.Rows
section
variable {prog:Program}{w:World}{A:Around}{E:Value→Shared→Prop}{s:Shared}{K:PySem.W.Frag}{x dx C f:Addr}{mA:Str→Option Value}{name:Str}{v:Value}
end
theorem RelO.some_of {v:V}{o:Option Value}(r:RelO (some v) o):∃u,o=some u∧RelV v u:=by
 cases o with
 | none=>exact(show False from r).elim
 | some u=>exact⟨u,rfl,r⟩
structure Cls (K:PySem.W.Frag)(C:Addr):Prop where
 pg:PySem.W.plainGet K C Str.empty=true
 hd:PySem.W.hasDictIn K C=true
 po:PySem.W.plainOver K C=true
 sa:PySem.W.findIn K (.ref C) "__setattr__" = some (some (.builtin "object.__setattr__"))
theorem Cls.get {K:PySem.W.Frag}{C:Addr}(c:Cls K C)(f:Str):PySem.W.plainGet K C f=true:=c.pg
section
variable {X:Cx}{pins:List (Addr×Obj)}{σ:St}{H:Hp}{s:Shared}{a C dx:Addr}{fs:List (Str×V)}{f:Str}{v:V}{A:Around}{E:Value→Shared→Prop}
end
end L2
namespace L2
open PySem PySem.Spec PyProof.Rows
structure Room (k:Nat)(A:Around):Prop where
 hd:A.handled=none
 dp:A.depth+3*k+5<recursionLimit
 un:A.units+16*k+200<cLine
theorem Room.mono {j k:Nat}{A:Around}(r:Room k A)(h:j≤k):Room j A:=⟨r.hd,by have:=r.dp;omega,by have:=r.un;omega⟩
theorem Room.deeper {k:Nat}{A:Around}(r:Room (k+1) A)(env:Env):Room k (A.deeper env) :=
 ⟨r.hd,by have:=r.dp;show A.depth+1+3*k+5<_;omega,by have:=r.un;show A.units+3+16*k+200<_;omega⟩
theorem Room.in1 {k:Nat}{A:Around}(r:Room (k+1) A):Room k A.in1 :=
 ⟨r.hd,by have:=r.dp;show A.depth+3*k+5<_;omega,by have:=r.un;show A.units+1+16*k+200<_;omega⟩
theorem Room.depth {k:Nat}{A:Around}(r:Room k A):A.depth<recursionLimit:=by have:=r.dp;omega
theorem Room.units {k:Nat}{A:Around}(r:Room k A):A.units+64<cLine:=by have:=r.un;omega
def zjg:TA:=fun _ H Q=>Q [] H
def jC (ta:TE)(tr:TA):TA:=fun σ H Q=>ta σ H fun x H1=>tr σ H1 fun xs H2=>Q (x::xs) H2
section
variable {X:Cx}{e:Expr}{es:List Expr}{te:TE}{t:TA}{pos:Pos}
theorem uX:PA X [] zjg:=fun _ _ _ _ H Q I h=>Calls.spliced_nil ⟨[],H,I,.nil,h⟩
theorem wA (ha:PE X e te)(hr:PA X es t)(hs:starEach (e::es) X.env=(false,eval e X.env)::starEach es X.env:=by rfl):PA X (e::es) (jC te t):=by
 intro pos pins s σ H Q I h
 rw[hs]
 show wpAny _ _ (spliced ((false,eval e X.env)::backTo pos (starEach es X.env))) _ _ s
 refine Calls.spliced_cons (thn (ha pins s σ H _ I h) fun u s1 hq20=>?_)
 obtain⟨x,H1,I1,r1,q1⟩:=hq20
 exact thn (hr pos pins s1 σ H1 _ I1 q1) fun us s2 ⟨xs,H2,I2,r2,q2⟩=>⟨x::xs,H2,I2,.cons r1 r2,q2⟩
def zne (t:TA):TE:=fun σ H Q=>t σ H fun xs H1=>xs.length≤sizeLine∧∀p,H1 p=none→Q (.ref p) (upd H1 p (.tup xs))
def zns (t:TA):TE:=fun σ H Q=>t σ H fun xs H1=>xs.length≤sizeLine∧∀p,H1 p=none→Q (.ref p) (upd H1 p (.lst xs))
theorem zk9 {x1}(h:PA X es t):PE X (.Tuple es x1 pos) (zne t):=by
 intro pins s σ H Q I hq
 refine wpAny_Tuple_spliced (thn (h pos pins s σ H _ I hq) fun us s1 ⟨xs,H1,I1,r,z,q⟩=>⟨by rw[← r.length];exact z,?_⟩)
 have hf:H1 s1.heap.objs.size=none:=I1.hok.fresh (Nat.le_refl _)
 refine⟨.ref s1.heap.objs.size,upd H1 s1.heap.objs.size (.tup xs),I1.laid (t':=s1.toks) (fun b u e=>Heap.get?_push_of_some _ e) (Nat.le_refl _) ?_,rfl,q _ hf⟩
 exact⟨z,us,r,TupD.new _ _⟩
theorem ziB (h:PA X es t):PE X (.List es pos) (zns t):=by
 intro pins s σ H Q I hq
 refine wpAny_List_spliced (thn (h pos pins s σ H _ I hq) fun us s1 ⟨xs,H1,I1,r,z,q⟩=>⟨by rw[← r.length];exact z,?_⟩)
 have hf:H1 s1.heap.objs.size=none:=I1.hok.fresh (Nat.le_refl _)
 refine⟨.ref s1.heap.objs.size,upd H1 s1.heap.objs.size (.lst xs),I1.laid (t':=s1.toks) (fun b u e=>Heap.get?_push_of_some _ e) (Nat.le_refl _) ?_,rfl,q _ hf⟩
 exact⟨z,us,0,r,Heap.get?_push_size _ rfl⟩
end
abbrev Sp:=List V→Hp→VK→XK→Prop
abbrev CXT:=List Env→Hp→Shared→XK→Value→Shared→Prop
structure Env0 (P:Program)(w:World)(K:PySem.W.Frag)(mg:Str→Option Value)(base:Heap)(A:Around)(outer:List Env)(s:Shared)(H:Hp):Prop where
 frames:A.frames=some outer
 mod:Mod K mg base
 bs:∀b o,base.get? b=some o→s.heap.get? b=some o∧H b=none
 bsz:base.objs.size≤s.heap.objs.size
 funs:s.heap.FunFrames base outer
 frf:∀b∈frs outer,H b=none
 hok:HOk P w H s.heap
 bare:AllBare s.gens
def CE (outer:List Env)(P:Program)(w:World)(H:Hp)(s:Shared)(Q:VK)(u:Value)(s':Shared):Prop :=
 ∃v H',s'.os=s.os∧AllBare s'.gens∧Un (frs outer) [] H H' s.heap s'.heap∧HOk P w H' s'.heap∧RelV v u∧Q v H'
def CR (CX:CXT)(outer:List Env)(P:Program)(w:World)(H:Hp)(s:Shared)(Q:VK)(E:XK)(r:Result)(s':Shared):Prop :=
 match r with
 | .ok (.ret u)=>CE outer P w H s Q u s'
 | .ok _=>False
 | .error e=>CX outer H s E e s'
structure FnOk (P:Program)(w:World)(K:PySem.W.Frag)(mg:Str→Option Value)(base:Heap)(CX:CXT)(k:Nat)(f:Addr)(fd:FuncData)(ps:List Str)(sp:Sp):Prop where
 len:∀vs H Q E,sp vs H Q E→vs.length=ps.length
 run:∀(A:Around) (outer:List Env) (s:Shared) (H:Hp) (args:Args) (us:List Value) (vs:List V) (Q:VK) (E:XK),Room k A→Env0 P w K mg base A outer s H→BindsTo s fd args (ps.zip us)→Vals vs us→sp vs H Q E →
  codeAny (model P w) A (.call (.ref f) args) (CR CX outer P w H s Q E) s
theorem FnOk.mono {P:Program}{w:World}{K:PySem.W.Frag}{mg:Str→Option Value}{base:Heap}{CX:CXT}{j k:Nat}{f:Addr}{fd:FuncData}{ps:List Str}{sp:Sp}(F:FnOk P w K mg base CX j f fd ps sp)(h:j≤k) :
  FnOk P w K mg base CX k f fd ps sp:=⟨F.len,fun A outer s H args us vs Q E hr=>F.run A outer s H args us vs Q E (hr.mono h)⟩
theorem Env0.in1 {P:Program}{w:World}{K:PySem.W.Frag}{mg:Str→Option Value}{base:Heap}{A:Around}{outer:List Env}{s:Shared}{H:Hp}(e:Env0 P w K mg base A outer s H) :
  Env0 P w K mg base A.in1 outer s H:=⟨e.frames,e.mod,e.bs,e.bsz,e.funs,e.frf,e.hok,e.bare⟩
section
variable {X:Cx}{pins:List (Addr×Obj)}{σ:St}{H:Hp}{s s':Shared}
theorem Inv.env0 (I:Inv X pins σ H s):Env0 X.prog X.w X.K X.mg X.base X.A X.stack s H :=
 ⟨I.ok.frames,I.ok.mod,I.bs,Nat.le_trans I.ok.bsz I.sz,I.stack,I.stkFree,I.hok,I.bare⟩
theorem Inv.after {Q:VK}{u:Value}(I:Inv X pins σ H s)(h:CE X.stack X.prog X.w H s Q u s'):EP X pins σ Q u s':=by
 obtain⟨v,H',os,bare,un,hok,r,q⟩:=h
 obtain⟨hh,g,d,t,os'⟩:=s'
 obtain rfl:os'=s.os:=os
 exact⟨v,H',I.call (h':=hh) (g':=g) (d':=d) (t':=t) (ch:=[]) un hok bare (fun b z=>absurd z (by simp)),r,q⟩
end
def zlH (sp:Sp)(dvs:List V)(E:XK)(t:TA):TE:=fun σ H Q=>t σ H fun vs H1=>sp (vs++dvs) H1 Q E
def Binds (K:PySem.W.Frag)(fd:FuncData)(ps:List Str)(ds:List Value):Prop :=
 ∀(s:Shared) (us:List Value),K.In s.heap→(us++ds).length=ps.length→BindsTo s fd ⟨us,[]⟩ (ps.zip (us++ds))
theorem Binds.all {K:PySem.W.Frag}{fd:FuncData}{ps:List Str}(h:∀us:List Value,us.length=ps.length→bindArgs fd ⟨us,[]⟩=pure (ps.zip us)):Binds K fd ps []:=fun s us _ hl=>by
 rw[List.append_nil] at hl ⊢
 exact .of_eq (h us hl)
def zcY (CX:CXT)(X:Cx)(E:XK):Prop:=∀(pins:List (Addr×Obj)) (σ:St) (H:Hp) (s:Shared) (e:Value) (s':Shared),Inv X pins σ H s→CX X.stack H s E e s'→X.xe e s'
section
variable {X:Cx}{CX:CXT}{k:Nat}{f C:Addr}{fd:FuncData}{ps:List Str}{sp:Sp}{dvs:List V}{ds:List Value}{E:XK}{x m:Str}{p pos apos:Pos}{e o:Expr}{es:List Expr}{ta:TE}{t:TA}
theorem zlZ {pins:List (Addr×Obj)}{σ:St}{H:Hp}{s:Shared}{Q:VK}{us:List Value}{vs:List V}(F:FnOk X.prog X.w X.K X.mg X.base CX k f fd ps sp)(hr:Room k X.A)(hb:Binds X.K fd ps ds)(hd:Vals dvs ds)(hx:zcY CX X E)
  (I:Inv X pins σ H s) (r:Vals vs us) (h:sp (vs++dvs) H Q E):wpAny (model X.prog X.w) X.A (call (.ref f) us) (EP X pins σ Q) X.xe s:=by
 have r2:Vals (vs++dvs) (us++ds):=r.append hd
 have hl:(us++ds).length=ps.length:=by rw[← r2.length];exact F.len _ _ _ _ h
 refine wpAny_call (codeAny_mono (F.run X.A X.stack s H ⟨us,[]⟩ (us++ds) (vs++dvs) Q E hr I.env0 (hb s us I.kIn hl) r2 h) fun r s' hq=>?_)
 cases r with
 | error e=>exact hx pins σ H s e s' I hq
 | ok fl =>
  cases fl with
  | ret u=>exact I.after hq
  | next=>exact False.elim hq
  | brk=>exact False.elim hq
  | cont=>exact False.elim hq
theorem zke (F:FnOk X.prog X.w X.K X.mg X.base CX k f fd ps sp)(hr:Room k X.A)(hg:Gl X x)(hm:X.mg x=some (.ref f))(hk:PySem.W.keepIn X.K (.ref f)=true)(hb:Binds X.K fd ps ds)(hd:Vals dvs ds)(hx:zcY CX X E)
  (ha:PA X (e::es) t) (hdb:(x == ("__debug__" : Str))=false:=by decide) (he:starEach (e::es) X.env=(false,eval e X.env)::starEach es X.env:=by rfl) (hpl:(backTo pos (starEach es X.env)).any (·.1)=false:=by rfl) :
  PE X (.Call (.Name x p) (e::es) [] pos) (zlH sp dvs E t):=by
 intro pins s σ H Q I h
 refine wpAny_Call_Name_kw (zab I hg hm ?_ hdb)
 refine PySem.W.callWith_K (h₀:=X.base) I.ok.mod.kin hk (thn (ha pos pins s σ H _ I h) fun us s1 ⟨vs,H1,I1,r,q⟩=>⟨I1.kIn,?_⟩) he hpl
 exact zlZ F hr hb hd hx I1 r q
end
structure FnScope (N P:List Str)(sc:Scope):Prop where
 kind:sc.kind=.function
 co:sc.isCoroutine=false
 gen:sc.isGenerator=false
 nd:N.Nodup
 pre:N.take P.length=P
 par:∀x∈P,sc.names.lookup x=some .local∨sc.names.lookup x=some .cell
 nofree:∀y∈sc.names,y.2≠.free
theorem zdb {kindOf:Str→Option NameKind}{x:Str}:∀{binds:List (Str×Value)}{m:Str→Option Value},(∀v,(x,v)∉binds)→bindL kindOf binds m x=m x
 | [],_,_=>rfl
 | (n,v)::r,m,h=>by
  unfold bindL
  rw[zdb fun w hw=>h w (List.mem_cons_of_mem _ hw)]
  split
  ·have:x≠n:=by rintro rfl;exact h v List.mem_cons_self
   simp[this]
  ·rfl
theorem zcI {kindOf:Str→Option NameKind}{x:Str}:∀{binds:List (Str×Value)}{m:Str→Option Value},(∀v,(x,v)∉binds)→bindC kindOf binds m x=m x
 | [],_,_=>rfl
 | (n,v)::r,m,h=>by
  unfold bindC
  rw[zcI fun w hw=>h w (List.mem_cons_of_mem _ hw)]
  split
  ·rfl
  ·have:x≠n:=by rintro rfl;exact h v List.mem_cons_self
   simp[this]
theorem zcV {kindOf:Str→Option NameKind}{x:Str}{v:Value}:∀{P:List Str}{vs:List Value}{i:Nat}{m:Str→Option Value},P.Nodup→P[i]? = some x→vs[i]? = some v→kindOf x=some .local →
  bindL kindOf (P.zip vs) m x=some v
 | [],_,_,_,_,h,_,_=>by simp at h
 | _::_,[],_,_,_,_,h,_=>by simp at h
 | p::P,w::vs,0,m,nd,h1,h2,hk=>by
  simp at h1 h2;subst h1;subst h2
  show bindL kindOf ((p,w)::P.zip vs) m p=_
  unfold bindL
  rw[zdb fun v hv=>(List.nodup_cons.mp nd).1 (List.of_mem_zip hv).1,if_pos hk]
  simp
 | p::P,w::vs,i+1,m,nd,h1,h2,hk=>by
  show bindL kindOf ((p,w)::P.zip vs) m x=_
  unfold bindL
  exact zcV (i:=i) (List.nodup_cons.mp nd).2 (by simpa using h1) (by simpa using h2) hk
theorem zc5 {kindOf:Str→Option NameKind}{x:Str}{v:Value}:∀{P:List Str}{vs:List Value}{i:Nat}{m:Str→Option Value},P.Nodup→P[i]? = some x→vs[i]? = some v→kindOf x≠some .local →
  bindC kindOf (P.zip vs) m x=some v
 | [],_,_,_,_,h,_,_=>by simp at h
 | _::_,[],_,_,_,_,h,_=>by simp at h
 | p::P,w::vs,0,m,nd,h1,h2,hk=>by
  simp at h1 h2;subst h1;subst h2
  show bindC kindOf ((p,w)::P.zip vs) m p=_
  unfold bindC
  rw[zcI fun v hv=>(List.nodup_cons.mp nd).1 (List.of_mem_zip hv).1,if_neg hk]
  simp
 | p::P,w::vs,i+1,m,nd,h1,h2,hk=>by
  show bindC kindOf ((p,w)::P.zip vs) m x=_
  unfold bindC
  exact zc5 (i:=i) (List.nodup_cons.mp nd).2 (by simpa using h1) (by simpa using h2) hk
def start (N:List Str)(vs:List V):St:=vs.map some++List.replicate (N.length - vs.length) none
def zas (CX:CXT)(P:Program)(w:World)(K:PySem.W.Frag)(mg:Str→Option Value)(base:Heap)(N:List Str)(qual:Str)(scope:Scope)(f:Addr)(cd:Value)(A:Around)(outer:List Env)(s:Shared)(H:Hp)(E:XK):Cx where
 prog:=P
 w:=w
 K:=K
 mg:=mg
 base:=base
 A:=A.deeper (envOfC qual scope s.heap.objs.size f cd)
 N:=N
 s₀:=s
 H₀:=H
 env:=envOfC qual scope s.heap.objs.size f cd
 outer:=outer
 stack:=envOfC qual scope s.heap.objs.size f cd::outer
 ex:=[]
 calm:=true
 fn:=fun _=>true
 pn:=[]
 xe:=fun e s'=>wpAny (model P w) (A.deeper (envOfC qual scope s.heap.objs.size f cd)) (leaving (envOfC qual scope s.heap.objs.size f cd) e) (fun _ s''=>CX outer H s E e s'') (fun e' s''=>CX outer H s E e' s'') s'
theorem zaK {sc:Scope}{n:Nat}{x:Str}(h:sc.names.lookup x=some .cell):∃c,(cellsFrom n sc.names []).lookup x=some c:=by
 have q:=PySem.W.cellsFrom_some sc.names n [] (.inl h)
 exact Option.isSome_iff_exists.mp q
theorem zcZ {CX:CXT}{P:Program}{w:World}{K:PySem.W.Frag}{mg:Str→Option Value}{base:Heap}{N ps:List Str}{qual:Str}{scope:Scope}{f:Addr}{cd:Value}{A:Around}{outer:List Env}{s s1:Shared}{H:Hp}{E:XK}{us:List Value}{vs:List V}
  (S:FnScope N ps scope) (hd:A.handled=none) (e0:Env0 P w K mg base A outer s H) (hl:vs.length=ps.length) (r:Vals vs us)
  (x:InCallC s s.heap.objs.size (bindL (envOfC qual scope s.heap.objs.size f cd).kindOf (ps.zip us) fun _=>none) (cellsFrom (s.heap.objs.size+1) scope.names []) (bindC (envOfC qual scope s.heap.objs.size f cd).kindOf (ps.zip us) fun _=>none) s1) :
  Inv (zas CX P w K mg base N qual scope f cd A outer s H E) [] (start N vs) H s1:=by
 have hpl:ps.length≤N.length:=by have:=congrArg List.length S.pre;rw[List.length_take] at this;omega
 obtain⟨h1,tk,rfl,hk⟩:=x.done
 have noA:∀b:Addr,b∉(zas CX P w K mg base N qual scope f cd A outer s H E).ex:=fun b z=>absurd (show b∈([]:List Addr) from z) (by simp)
 refine ⟨⟨e0.mod,S.kind,rfl,rfl,Nat.le_refl _,fun y z c h1 h2=>?_,fun y hy=>?_,fun y c _ h=>?_,fun _=>hd,Around.frames_deeper e0.frames,.inr ⟨rfl,rfl⟩,fun b z=>absurd z (noA b),e0.bs,e0.bsz,fun b _ _=>noA b,fun b z=>absurd z (noA b),e0.funs,e0.frf⟩,
  rfl,e0.bare,Un.kept hk,⟨_,x.toInCall.ns,fun i y v h1 h2 h3=>?_⟩,fun y c h=>⟨_,x.cell y c h⟩,e0.hok.fresh (Nat.le_refl _),fun y c h=>?_,fun p hp=>absurd (show p∈([]:List (Addr×Obj)) from hp) (by simp),e0.hok.kept hk,?_⟩
 ·exact name_of_addr x.apart (PySem.mem_of_lookup h1) (PySem.mem_of_lookup h2)
 ·have hy:scope.names.lookup y=some .cell∨scope.names.lookup y=some .free:=hy
  rcases hy with hy|hy
  ·exact zaK hy
  ·exact absurd rfl (S.nofree _ (PySem.mem_of_lookup hy))
 ·exact Nat.le_of_lt (x.above y c (PySem.mem_of_lookup h))
 ·have hi:i<vs.length:=by
   unfold start at h2
   by_cases hi:i<vs.length
   ·exact hi
   ·rw[List.getElem?_append_right (by simpa using hi)] at h2
    rw[List.getElem?_replicate] at h2
    split at h2 <;>cases h2
  have ha:vs[i]? = some v:=by
   unfold start at h2
   rw[List.getElem?_append_left (by simpa using hi),List.getElem?_map] at h2
   cases e:vs[i]? with
   | none=>rw[e] at h2;cases h2
   | some a=>rw[e] at h2;cases h2;rfl
  obtain⟨u,hu,rv⟩:=r.get ha
  have hp:ps[i]? = some y:=by
   rw[← S.pre,List.getElem?_take_of_lt (by omega)];exact h1
  have ndP:ps.Nodup:=by rw[← S.pre];exact S.nd.sublist (List.take_sublist _ _)
  refine⟨u,rv,?_⟩
  rcases S.par y (List.mem_of_getElem? hp) with k|k
  ·exact .inl ⟨k,zcV ndP hp hu k⟩
  ·obtain⟨c,e⟩:=zaK (n:=s.heap.objs.size+1) k
   refine .inr ⟨.inl k,c,e,?_⟩
   have q:=x.cell y c e
   rw[zc5 ndP hp hu (by show scope.names.lookup y≠_;rw[k];decide)] at q
   exact q
 ·exact e0.hok.fresh (Nat.le_of_lt (x.above y c (PySem.mem_of_lookup h)))
 ·unfold start
  show _=N.length
  rw[List.length_append,List.length_map,List.length_replicate]
  omega
theorem zlq {CX:CXT}{P:Program}{w:World}{K:PySem.W.Frag}{mg:Str→Option Value}{base:Heap}{k:Nat}{f:Addr}{name qual:Str}{params:Arguments}{body:List Stmt}{scope:Scope}{dV kV doc pm cdv ct oc:Value}{an od:Option Addr}
  {osl:Array (Option Value)}{N ps:List Str}{sp:Sp} (lk:K.lookup f=some ⟨oc,od,.func (PySem.W.fnOf name qual params body scope dV kV doc pm an cdv ct),osl⟩) (hcd:PySem.W.codeIn K cdv qual=true) (S:FnScope N ps scope)
  (len:∀vs H Q E,sp vs H Q E→vs.length=ps.length)
  (hbody:∀(A:Around) (outer:List Env) (s:Shared) (H:Hp) (vs:List V) (Q:VK) (E:XK),Room k (A.deeper (envOfC qual scope s.heap.objs.size f cdv))→sp vs H Q E →
   ∃t,PSs (zas CX P w K mg base N qual scope f cdv A outer s H E) body t∧t {nx:=fun _ H'=>Q .non H',rt:=Q} (start N vs) H) :
  FnOk P w K mg base CX (k+1) f (PySem.W.fnOf name qual params body scope dV kV doc pm an cdv ct) ps sp:=by
 refine⟨len,fun A outer s H args us vs Q E hr e0 hb r hsp=>?_⟩
 have hl:=len _ _ _ _ hsp
 have KX:K.In s.heap:=e0.mod.kin.keeps fun b o e=>(e0.bs b o e).1
 have lim:s.heap.NoLimit:=e0.mod.nolimit.keeps fun b o e=>(e0.bs b o e).1
 have hkind:∀y∈ps.zip us,scope.names.lookup y.1=some .local∨(scope.names.lookup y.1=some .cell∧((cellsFrom (s.heap.objs.size+1) scope.names []).lookup y.1).isSome=true):=fun⟨n,v⟩ hy=>by
  rcases S.par n (List.of_mem_zip hy).1 with q|q
  ·exact .inl q
  ·exact .inr ⟨q,PySem.W.cellsFrom_some _ _ _ (.inl q)⟩
 refine codeAny_call_function hr.depth (KX _ _ lk) rfl S.co S.gen rfl (PySem.W.codeRec_of KX hcd) (hb _ _ _ _ ?_)
 refine wpAny_newFunctionEnv_cells S.kind hkind fun env he s1 x=>?_
 subst he
 refine⟨lim.keeps x.toInCall.keep,codeAny_func ?_⟩
 obtain⟨t,ht,hq⟩:=hbody A outer s H vs Q E (hr.deeper _) hsp
 have I:Inv (zas CX P w K mg base N qual scope f cdv A outer s H E) [] (start N vs) H s1:=zcZ S hr.hd e0 hl r x
 refine wpAny_mono (ht [] s1 (start N vs) H _ I hq) (fun fl s' hs=>?_) fun e s' hs=>hs
 have fin:∀{σ':St}{H':Hp}{v:V}{u:Value},Inv (zas CX P w K mg base N qual scope f cdv A outer s H E) [] σ' H' s'→RelV v u→Q v H'→CE outer P w H s Q u s' :=
  fun {σ' H' v u} J rv q=>⟨v,H',J.os,J.bare,J.base,J.hok,rv,q⟩
 cases fl with
 | ret u =>
  obtain⟨v,σ',H',J,rv,q⟩:=hs
  exact fin J rv q
 | next =>
  obtain⟨σ',H',J,q⟩:=hs
  exact fin (v:=V.non) (u:=Value.none) J rfl q
 | brk =>
  obtain⟨_,_,_,q⟩:=hs
  exact False.elim q
 | cont =>
  obtain⟨_,_,_,q⟩:=hs
  exact False.elim q
end L2
namespace L2
open PySem PySem.Spec PyProof.Rows
section
variable {X:Cx}{x:Str}{p pos:Pos}{e:Expr}{es:List Expr}{t:TA}{id T:String}{r:List V→Hp→VK→Prop}
def tCB (r:List V→Hp→VK→Prop)(t:TA):TE:=fun σ H Q=>t σ H fun vs H1=>r vs H1 Q
theorem ju (hc:qR X (.builtin id) r)(hg:Gl X x)(hm:X.mg x=none)(hv:bootBuiltins x=some (.builtin id))(ha:PA X (e::es) t)(hn:x ≠ "__name__" := by decide)(hdb:(x == ("__debug__" : Str))=false:=by decide)
  (he:starEach (e::es) X.env=(false,eval e X.env)::starEach es X.env:=by rfl) (hpl:(backTo pos (starEach es X.env)).any (·.1)=false:=by rfl):PE X (.Call (.Name x p) (e::es) [] pos) (tCB r t):=by
 intro pins s σ H Q I h
 refine wpAny_Call_Name_kw (zaj I hg hm hv ?_ hn hdb)
 exact PyProof.Rows.callWith_builtin1 (thn (ha pos pins s σ H _ I h) fun us s1 ⟨vs,H1,I1,r1,q1⟩=>hc pins s1 σ H1 vs us Q I1 r1 q1) he hpl
theorem zfS (hc:qR X (.type T) r)(hg:Gl X x)(hm:X.mg x=none)(hv:bootBuiltins x=some (.type T))(ha:PA X (e::es) t)(hn:x ≠ "__name__" := by decide)(hdb:(x == ("__debug__" : Str))=false:=by decide)
  (he:starEach (e::es) X.env=(false,eval e X.env)::starEach es X.env:=by rfl) (hpl:(backTo pos (starEach es X.env)).any (·.1)=false:=by rfl):PE X (.Call (.Name x p) (e::es) [] pos) (tCB r t):=by
 intro pins s σ H Q I h
 refine wpAny_Call_Name_kw (zaj I hg hm hv ?_ hn hdb)
 exact PyProof.Rows.callWith_type1 (thn (ha pos pins s σ H _ I h) fun us s1 ⟨vs,H1,I1,r1,q1⟩=>hc pins s1 σ H1 vs us Q I1 r1 q1) he hpl
end
end L2
namespace HT
open PySem PyProof.Rows
section
open PySem.SeqAt
open PySem.AutoSeq1 (wpAny_loadPart')
open PySem.MeetsSeq PySem.MeetsSeq2 PySem.MeetsSeq3
end
section
variable {prog:Program}{w:World}{A:Around}{E:Value→Shared→Prop}{s:Shared}
def sIx (n d:Nat):Option Int→Nat
 | none=>d
 | some v=>if v<0 then(v+(n:Int)).toNat else min v.toNat n
theorem sIx_none (n d:Nat):sIx n d none=d:=rfl
theorem sIx_nat (n d k:Nat):sIx n d (some (k:Int))=min k n:=by
 show(if (k:Int)<0 then((k:Int)+(n:Int)).toNat else min (k:Int).toNat n)=min k n
 rw[if_neg (by omega),Int.toNat_natCast]
theorem sIx_le (n d:Nat)(hd:d≤n)(o:Option Int):sIx n d o≤n:=by
 cases o with
 | none=>exact hd
 | some v =>
  show(if v<0 then(v+(n:Int)).toNat else min v.toNat n)≤n
  by_cases hv:v<0
  ·rw[if_pos hv];omega
  ·rw[if_neg hv];exact Nat.min_le_right _ _
theorem zgl (v:Int)(n d:Nat):(if v<0 then max (v+(n:Int)) 0 else min v (n:Int))=((sIx n d (some v):Nat):Int):=by
 show(if v<0 then max (v+(n:Int)) 0 else min v (n:Int))=(((if v<0 then(v+(n:Int)).toNat else min v.toNat n):Nat):Int)
 by_cases hv:v<0
 ·simp only[if_pos hv];omega
 ·simp only[if_neg hv];omega
theorem zfa (lo hi:Option Int)(n:Nat):Builtin.Slice.sliceAdjust lo hi 1 (n:Int)=(((sIx n 0 lo:Nat):Int),((sIx n n hi:Nat):Int)):=by
 have h1:¬((1:Int)<0):=by omega
 unfold Builtin.Slice.sliceAdjust
 simp only[h1,if_false]
 refine Prod.ext ?_ ?_
 ·cases lo with
  | none=>rfl
  | some v=>exact zgl v n 0
 ·cases hi with
  | none=>rfl
  | some v=>exact zgl v n n
theorem zfc (i j:Nat):Builtin.Slice.slicePlaces (i:Int) (j:Int) 1=j - i:=by
 unfold Builtin.Slice.slicePlaces
 have h1:(1:Int) > 0:=by omega
 simp only[h1,if_true,Int.ediv_one]
 split <;>omega
theorem zbJ {v:Value}{o:Option Int}{Q:Option Int→Shared→Prop}(p:IsPart v o)(h:Q o s):wpAny (model prog w) A (Builtin.Slice.slicePartIndex v) Q E s:=by
 cases p with
 | none=>exact slicePart_none h
 | int i t=>exact slicePart_int h
theorem sliceApplied_gen {sl:Addr}{vl vu:Value}{lo hi:Option Int}{n:Nat}{Q:Int×Int×Nat→Shared→Prop}(hs:s.heap.IsSliceOf sl vl vu .none)(pl:IsPart vl lo)(pu:IsPart vu hi)
  (h:Q (((sIx n 0 lo:Nat):Int),1,sIx n n hi - sIx n 0 lo) s):wpAny (model prog w) A (Builtin.Slice.sliceApplied (.ref sl) (pure (n:Int))) Q E s:=by
 obtain⟨os,hos,hcs,hds⟩:=id hs
 unfold Builtin.Slice.sliceApplied Builtin.Slice.sliceFields
 refine wpAny_bind (wpAny_bind (wpAny_field hos hds (x:=vl) rfl (wpAny_bind (wpAny_field hos hds (x:=vu) rfl (wpAny_bind (wpAny_field hos hds (x:=.none) rfl (wpAny_pure ?_)))))))
 refine wpAny_bind (slicePart_none ?_)
 show wpAny _ _ (if ((1:Int) == 0)=true then _ else _) _ _ s
 rw[if_neg (by decide)]
 refine wpAny_bind (zbJ pl (wpAny_bind (zbJ pu (wpAny_bind (wpAny_pure ?_)))))
 show wpAny _ _ (match Builtin.Slice.sliceAdjust lo hi 1 (n:Int) with|(lo,hi)=>pure (lo,(1:Int),Builtin.Slice.slicePlaces lo hi 1)) _ _ s
 rw[zfa lo hi n]
 show wpAny _ _ (pure (((sIx n 0 lo:Nat):Int),(1:Int),Builtin.Slice.slicePlaces ((sIx n 0 lo:Nat):Int) ((sIx n n hi:Nat):Int) 1)) _ _ s
 rw[zfc]
 exact wpAny_pure h
theorem zia (xs:Array Value)(i k:Nat):((List.range k).filterMap fun(m:Nat)=>xs[((i:Int)+(m:Int)*1).toNat]?).toArray=((xs.toList.drop i).take k).toArray:=by
 have e:(fun(m:Nat)=>xs[((i:Int)+(m:Int)*1).toNat]?)=fun m=>xs[i+m]?:=by
  funext m
  have:((i:Int)+(m:Int)*1).toNat=i+m:=by omega
  rw[this]
 rw[e]
 have:=pick_run xs i k
 rw[List.filterMap_map] at this
 have e2:((fun x=>xs[x]?)∘fun x=>i+x)=fun m=>xs[i+m]?:=rfl
 rw[e2] at this
 rw[this]
theorem getItem_tuple_cut {t sl:Addr}{items:Array Value}{vl vu:Value}{lo hi:Option Int}{Q:Value→Shared→Prop}(ht:IsTup s.heap t items)(hs:s.heap.IsSliceOf sl vl vu .none)(pl:IsPart vl lo)(pu:IsPart vu hi)
  (hw:¬(sIx items.size 0 lo=0∧sIx items.size items.size hi=items.size))
  (h:Q (.ref s.heap.objs.size) {s with heap:=s.heap.push {cls:=.type "tuple", data:=.seq ((items.toList.drop (sIx items.size 0 lo)).take (sIx items.size items.size hi - sIx items.size 0 lo)).toArray} })
  (hsz:items.size≤sizeLine):wpAny (model prog w) A (getItem (.ref t) (.ref sl)) Q E s:=by
 have htake:sizeOk (.seq ((items.toList.drop (sIx items.size 0 lo)).take (sIx items.size items.size hi - sIx items.size 0 lo)).toArray):=by
  show((items.toList.drop (sIx items.size 0 lo)).take (sIx items.size items.size hi - sIx items.size 0 lo)).toArray.size≤sizeLine
  rw[List.size_toArray,List.length_take,List.length_drop,Array.length_toList]
  omega
 have hj:sIx items.size items.size hi≤items.size:=sIx_le _ _ (Nat.le_refl _) hi
 obtain⟨os,hos,hcs,hds⟩:=id hs
 have hTs:s.TypeIs (.ref sl) "slice" := ⟨os,hos,hcs⟩
 unfold getItem
 try with_reducible refine wpAny_holding ?_
 first|refine wpAny_bind (wpAny_pure ?_)|skip
 refine wpAny_bind (wpAny_sequenceKey ht.typeIs (by decide) ?_)
 refine wpAny_bind (wpAny_callSpecial?_slot (name:=Str.ofString "__getitem__") ht.typeIs PyProof.Rows.slot_tuple_getitem
  (wpAny_call_entry PyProof.Rows.slot_tuple_getitem ht.typeIs entry_tuple_getitem ?_ (args_tuple_getitem _ _)))
 show wpAny _ _ (Builtin.Tuple.tupleItemsOf (.ref t) >>= _) _ _ s
 refine wpAny_bind (tupleItemsOf_ ht ?_)
 refine wpAny_bind (wpAny_typeOf hTs ?_)
 rw[if_pos (by decide)]
 refine wpAny_bind (sliceApplied_gen hs pl pu ?_)
 have hno:¬((((sIx items.size 0 lo:Nat):Int) == 0&&(1:Int) == 1&&(sIx items.size items.size hi - sIx items.size 0 lo) == items.size)=true):=by
  intro q
  rw[Bool.and_eq_true,Bool.and_eq_true] at q
  have q1:((sIx items.size 0 lo:Nat):Int)=0:=eq_of_beq q.1.1
  have q2:sIx items.size items.size hi - sIx items.size 0 lo=items.size:=eq_of_beq q.2
  exact hw ⟨by omega,by omega⟩
 show wpAny _ _ (if (((sIx items.size 0 lo:Nat):Int) == 0&&(1:Int) == 1&&(sIx items.size items.size hi - sIx items.size 0 lo) == items.size)=true then _ else _) _ _ s
 rw[if_neg hno,zia]
 first
  | exact wpAny_bind (m:=Builtin.Tuple.tupleExact _) (wpAny_newObj_type (wpAny_pure ⟨_,rfl,wpAny_pure h⟩) htake)
  | exact wpAny_bind (m:=Builtin.Tuple.tupleExact _) (wpAny_newObj_type (wpAny_bind (wpAny_pure (wpAny_pure ⟨_,rfl,wpAny_pure h⟩))) htake)
  | exact wpAny_bind (wpAny_bind (m:=Builtin.Tuple.tupleExact _) (wpAny_newObj_type (wpAny_pure (wpAny_pure ⟨_,rfl,wpAny_pure h⟩)) htake))
  | exact wpAny_bind (wpAny_bind (m:=Builtin.Tuple.tupleExact _) (wpAny_newObj_type (wpAny_pure ⟨_,rfl,wpAny_pure h⟩) htake))
end
end HT
namespace L2
open PySem PySem.Spec PyProof.Rows
abbrev TO:=St→Hp→(Option Int→Hp→Prop)→Prop
def PO (X:Cx)(e:Option Expr)(t:TO):Prop :=
 ∀ (pins:List (Addr×Obj)) (s:Shared) (σ:St) (H:Hp) (Q:Option Int→Hp→Prop),Inv X pins σ H s→t σ H Q →
  wpAny (model X.prog X.w) X.A (evalPart e X.env) (fun u s'=>∃o H',Inv X pins σ H' s'∧IsPart u o∧Q o H') X.xe s
def zjW:TO:=fun _ H Q=>Q none H
def zmR (t:TE):TO:=fun σ H Q=>t σ H fun x H1=>∃i,x=.int i∧Q (some i) H1
section
variable {X:Cx}{e:Expr}{te:TE}{lo hi:Option Expr}{tl th:TO}{pos p2:Pos}
theorem zjM:PO X none zjW:=by
 intro pins s σ H Q I h
 rw[evalPart_none]
 exact wpAny_pure ⟨none,H,I,.none,h⟩
theorem zkj (h:PE X e te):PO X (some e) (zmR te):=by
 intro pins s σ H Q I hw
 rw[evalPart_some]
 refine thn (h pins s σ H _ I hw) fun u s1 hq21=>?_
 obtain⟨x,H1,I1,r1,q1⟩:=hq21
 obtain⟨i,rfl,q⟩:=q1
 obtain⟨t,rfl⟩:=r1
 exact⟨some i,H1,I1,.int i t,q⟩
def SlR (X:Cx)(r:V→Option Int→Option Int→Hp→VK→Prop):Prop :=
 ∀ (pins:List (Addr×Obj)) (s:Shared) (σ:St) (H:Hp) (x:V) (v vl vu:Value) (lo hi:Option Int) (sl:Addr) (Q:VK),Inv X pins σ H s→RelV x v→s.heap.IsSliceOf sl vl vu .none→IsPart vl lo→IsPart vu hi→r x lo hi H Q →
  ∃T id,typeLookup (.type T) "__getitem__" = pure (some (.builtin id))∧s.TypeIs v T∧wpAny (model X.prog X.w) X.A (getItem v (.ref sl)) (EP X pins σ Q) X.xe s
theorem SlR.or {r r':V→Option Int→Option Int→Hp→VK→Prop}(h:SlR X r)(h':SlR X r'):SlR X (fun x lo hi H Q=>r x lo hi H Q∨r' x lo hi H Q):=by
 intro pins s σ H x v vl vu lo hi sl Q I rx hs pl pu q
 rcases q with q|q
 ·exact h pins s σ H x v vl vu lo hi sl Q I rx hs pl pu q
 ·exact h' pins s σ H x v vl vu lo hi sl Q I rx hs pl pu q
def tSl (r:V→Option Int→Option Int→Hp→VK→Prop)(te:TE)(tl th:TO):TE:=fun σ H Q=>te σ H fun x H1=>tl σ H1 fun l H2=>th σ H2 fun u H3=>r x l u H3 Q
theorem zir {r:V→Option Int→Option Int→Hp→VK→Prop}(hr:SlR X r)(he:PE X e te)(hl:PO X lo tl)(hu:PO X hi th):PE X (.Subscript e (.Slice lo hi none p2) pos) (tSl r te tl th):=by
 intro pins s σ H Q I h
 refine Subscript_ (thn (he pins s σ H _ I h) fun v s1 hq22=>?_)
 obtain⟨x,H1,I1,r1,q1⟩:=hq22
 refine wpAny_Slice (thn (hl pins s1 σ H1 _ I1 q1) fun vl s2 ⟨l,H2,I2,pl,q2⟩=>thn (hu pins s2 σ H2 _ I2 q2) fun vu s3 hq23=>?_)
 obtain⟨u,H3,I3,pu,q3⟩:=hq23
 rw[evalPart_none]
 refine wpAny_pure ?_
 have I4:Inv X pins σ H3 {s3 with heap:=s3.heap.push {cls:=.type "slice", data:=.fields #[vl,vu,.none]} }:=I3.kept (t':=s3.toks) fun b ob q=>Heap.get?_push_of_some _ q
 obtain⟨T,id,hT,ht,hg⟩:=hr pins {s3 with heap:=s3.heap.push {cls:=.type "slice", data:=.fields #[vl,vu,.none]} } σ H3 x v vl vu l u s3.heap.objs.size Q I4 r1 (Heap.IsSliceOf.new ..) pl pu q3
 show wpAny (model X.prog X.w) X.A (subscriptTail e (.Slice lo hi none p2) v (.ref s3.heap.objs.size)) (EP X pins σ Q) X.xe {s3 with heap:=s3.heap.push {cls:=.type "slice", data:=.fields #[vl,vu,.none]} }
 exact tail_any (ops:=[.ref s3.heap.objs.size,v]) ht hT hg (by with_unfolding_all rfl)
def zge (xs:List V)(lo hi:Option Int):List V:=(xs.drop (HT.sIx xs.length 0 lo)).take (HT.sIx xs.length xs.length hi - HT.sIx xs.length 0 lo)
theorem zba (xs:List V)(lo hi:Option Int):(zge xs lo hi).length≤xs.length:=by
 unfold zge
 rw[List.length_take,List.length_drop]
 omega
def znd (K:PySem.W.Frag):V→Option Int→Option Int→Hp→VK→Prop:=fun x lo hi H Q=>∃a xs,x=.ref a∧SqT K H a xs ∧
 ¬(HT.sIx xs.length 0 lo=0∧HT.sIx xs.length xs.length hi=xs.length)∧∀p,H p=none→Q (.ref p) (upd H p (.tup (zge xs lo hi)))
theorem zkL:SlR X (znd X.K):=by
 intro pins s σ H x v vl vu lo hi sl Q I rx hs pl pu h
 obtain⟨a,xs,rfl,hx,hw,q⟩:=h
 cases rx
 obtain⟨its,r,ht,hz⟩:=I.tuple hx
 have hlen:its.toArray.size=xs.length:=by rw[List.size_toArray];exact r.length.symm
 refine⟨"tuple", _,PyProof.Rows.slot_tuple_getitem.lookup,ht.typeIs,?_⟩
 refine HT.getItem_tuple_cut ht hs pl pu (by rw[hlen];exact hw) ?_ (by rw[hlen];exact hz)
 rw[hlen]
 refine⟨.ref s.heap.objs.size,_,I.laid (t':=s.toks) (o:=.tup (zge xs lo hi)) (fun b ob q=>Heap.get?_push_of_some _ q) (Nat.le_refl _) ?_,rfl,q _ (I.hok.fresh (Nat.le_refl _))⟩
 exact⟨Nat.le_trans (zba xs lo hi) hz,_,(r.drop (HT.sIx xs.length 0 lo)).take (HT.sIx xs.length xs.length hi - HT.sIx xs.length 0 lo),TupD.new _ _⟩
end
end L2
namespace L2
open PySem PySem.Spec PyProof.Rows
def ixN (n:Nat)(i:Int):Option Nat:=if 0≤i then(if i<n then some i.toNat else none) else if -(n:Int)≤i then some (i+n).toNat else none
def atI {α:Type}(xs:List α)(i:Int):Option α:=(ixN xs.length i).bind fun j=>xs[j]?
theorem zjT {n:Nat}{i:Int}{j:Nat}(h:ixN n i=some j):seqIndex? i n=some j∧j<n∧-(n:Int)≤i∧i<n:=by
 unfold ixN at h
 by_cases h0:0≤i
 ·rw [if_pos h0] at h
  by_cases h1:i<n
  ·rw[if_pos h1] at h
   have e:i.toNat=j:=Option.some.inj h
   exact⟨by rw[seqIndex_of h0 h1,e],by omega,by omega,h1⟩
  ·rw[if_neg h1] at h;cases h
 ·rw [if_neg h0] at h
  by_cases h1:-(n:Int)≤i
  ·rw[if_pos h1] at h
   have e:(i+n).toNat=j:=Option.some.inj h
   exact⟨by rw[seqIndex_neg (by omega) h1,e],by omega,h1,by omega⟩
  ·rw[if_neg h1] at h;cases h
theorem zd7 {α:Type}{xs:List α}{i:Int}{v:α}(h:atI xs i=some v):∃j,seqIndex? i xs.length=some j∧xs[j]? = some v∧j<xs.length∧-(xs.length:Int)≤i∧i<xs.length:=by
 unfold atI at h
 cases e:ixN xs.length i with
 | none=>rw[e] at h;cases h
 | some j =>
  rw[e] at h
  obtain⟨h1,h2,h3,h4⟩:=zjT e
  exact⟨j,h1,h,h2,h3,h4⟩
theorem zjo {α:Type}{xs:List α}{j:Nat}{v:α}(h:xs[j]? = some v):atI xs (j:Int)=some v:=by
 have hj:j<xs.length:=(List.getElem?_eq_some_iff.mp h).1
 have e:ixN xs.length (j:Int)=some j:=by
  unfold ixN
  rw[if_pos (by omega),if_pos (by omega)];simp
 unfold atI;rw[e];exact h
def zgY (b:Expr):Prop:=∀o i,subscripted b false o i=operate [o,i] (getItem o i)
def IxR (X:Cx)(r:R2):Prop :=
 ∀ (value slice:Expr) (pins:List (Addr×Obj)) (s:Shared) (σ:St) (H:Hp) (x y:V) (v u:Value) (Q:VK),Inv X pins σ H s→RelV x v→RelV y u→r x y H Q →
  subscripted slice false v u=operate [v,u] (getItem v u)→wpAny (model X.prog X.w) X.A (subscriptTail value slice v u) (EP X pins σ Q) X.xe s
def MtR (X:Cx)(id:String)(r:V→List V→Hp→VK→Prop):Prop :=
 ∀ (pins:List (Addr×Obj)) (s:Shared) (σ:St) (H:Hp) (x:V) (xs:List V) (v:Value) (us:List Value) (Q:VK),Inv X pins σ H s→RelV x v→Vals xs us→r x xs H Q →
  wpAny (model X.prog X.w) X.A (call (.builtin id) (v::us)) (EP X pins σ Q) X.xe s
section
variable {X:Cx}{a b:Expr}{ta tb:TE}{pos:Pos}
theorem IxR.or {r r':R2}(h:IxR X r)(h':IxR X r'):IxR X (fun x y H Q=>r x y H Q∨r' x y H Q):=by
 intro value slice pins s σ H x y v u Q I rx ry q hs
 rcases q with q|q
 ·exact h value slice pins s σ H x y v u Q I rx ry q hs
 ·exact h' value slice pins s σ H x y v u Q I rx ry q hs
theorem zmG {r:R2}(hr:IxR X r)(ha:PE X a ta)(hb:PE X b tb)(hs:zgY b):PE X (.Subscript a b pos) (tOp r ta tb):=by
 intro pins s σ H Q I h
 exact Subscript_ (zmv ha hb I h fun v u s2 x y H2 I2 rx ry q=>hr a b pins s2 σ H2 x y v u Q I2 rx ry q (hs _ _))
def zmV (K:PySem.W.Frag):R2:=fun x y H Q=>∃p xs i v,x=.ref p∧y=.int i∧SqL K H p xs∧atI xs i=some v∧Q v H
def zm2 (K:PySem.W.Frag):R2:=fun x y H Q=>∃p xs i v,x=.ref p∧y=.int i∧SqT K H p xs∧atI xs i=some v∧Q v H
def zmY:R2:=fun x y H Q=>∃z i c,x=.str z∧y=.int i∧z.length≤sizeLine∧atI z.cps.toList i=some c∧Q (.str ⟨#[c]⟩) H
theorem ix_list:IxR X (zmV X.K):=by
 intro value slice pins s σ H x y v u Q I rx ry h hs
 obtain⟨p,xs,i,z,rfl,rfl,hq,he,q⟩:=h
 cases rx
 obtain⟨t,rfl⟩:=ry
 obtain⟨its,r,pl,hz⟩:=I.list hq
 obtain⟨j,h1,h2,h3,h4,h5⟩:=zd7 he
 obtain⟨w,ew,rw'⟩:=r.get h2
 have hl:=r.length
 have hn:=zeY
 have fin:EP X pins σ Q w s:=⟨z,H,I,rw',q⟩
 by_cases h0:0≤i
 ·have hj:i.toNat=j:=by
   rw[seqIndex_of h0 h5] at h1
   exact Option.some.inj h1
  exact item_listR pl.isList h0 (by omega) (by rw[hj];simpa using ew) fin hs
 ·have hj:(i+(its.toArray.size:Int)).toNat=j:=by
   rw[seqIndex_neg (by omega) h4] at h1
   rw[List.size_toArray,← hl]
   exact Option.some.inj h1
  exact subscriptTail_builtinR (x:=w) pl.isList.typeIs slot_list_getitem.lookup
   (wpAny_getItem_list_neg (Q:=fun r s'=>r=w∧EP X pins σ Q r s') pl.isList (by omega) (by rw[List.size_toArray] <;>omega) (by omega) (by rw[hj];simpa using ew) ⟨rfl,fin⟩) hs
theorem ix_tup:IxR X (zm2 X.K):=by
 intro value slice pins s σ H x y v u Q I rx ry h hs
 obtain⟨p,xs,i,z,rfl,rfl,hq,he,q⟩:=h
 cases rx
 obtain⟨t,rfl⟩:=ry
 obtain⟨its,r,pl,hz⟩:=I.tuple hq
 obtain⟨j,h1,h2,h3,h4,h5⟩:=zd7 he
 obtain⟨w,ew,rw'⟩:=r.get h2
 have hl:=r.length
 have hn:=zeY
 have fin:EP X pins σ Q w s:=⟨z,H,I,rw',q⟩
 exact subscriptTail_builtinR (x:=w) pl.typeIs slot_tuple_getitem.lookup
  (getItem_tuple (j:=j) (Q:=fun r s'=>r=w∧EP X pins σ Q r s') pl (by omega) (by omega) (by rw[List.size_toArray,← hl];exact h1) (by simpa using ew) ⟨rfl,fin⟩) hs
theorem zbO:IxR X zmY:=by
 intro value slice pins s σ H x y v u Q I rx ry h hs
 obtain⟨z,i,c,rfl,rfl,hz,he,q⟩:=h
 obtain⟨t,rfl⟩:=rx
 obtain⟨t',rfl⟩:=ry
 obtain⟨j,h1,h2,h3,h4,h5⟩:=zd7 he
 have hl:z.cps.toList.length=z.length:=by simp[Str.length]
 rw[hl] at h1 h4 h5
 have hn:=zeY
 exact tail_any (typeIs_str s z t) slot_str_getitem.lookup (getItem_str (c:=c) (by
  have e1:decide (i < -(2 ^ 63:Int))=false:=decide_eq_false (by omega)
  have e2:decide (i≥2 ^ 63)=false:=decide_eq_false (by omega)
  rw[e1,e2,Bool.or_false]) (by rw[h1];simpa using h2) ⟨.str ⟨#[c]⟩,H,I.tok _,⟨_,rfl⟩,q⟩) hs
def rIx (K:PySem.W.Frag):R2:=fun x y H Q=>zmV K x y H Q∨zm2 K x y H Q∨zmY x y H Q
theorem zkV:IxR X (rIx X.K):=ix_list.or (ix_tup.or zbO)
theorem Inv.lst {pins:List (Addr×Obj)}{σ:St}{H:Hp}{s:Shared}{p:Addr}{xs:List V}(I:Inv X pins σ H s)(h:H p=some (.lst xs)) :
  ∃(its:List Value) (n:Nat),Vals xs its∧s.heap.get? p=some {cls:=.type "list", data:=.seq its.toArray n}∧xs.length≤sizeLine:=by
 obtain⟨z,its,n,r,e⟩:=I.hok p _ h
 exact⟨its,n,r,e,z⟩
theorem zcJ (lo hi:Option Int)(n:Nat):(sliceBounds lo hi none n).1=((HT.sIx n 0 lo:Nat):Int)∧(sliceBounds lo hi none n).2.1=((HT.sIx n n hi:Nat):Int)∧(sliceBounds lo hi none n).2.2=1:=by
 refine⟨?_,?_,rfl⟩
 ·cases lo with
  | none=>simp[sliceBounds,HT.sIx]
  | some i =>
   simp only[sliceBounds,HT.sIx,Option.getD_none,show(1:Int) > 0 by decide,if_true]
   by_cases h:i<0
   ·simp only[h,if_true] <;>omega
   ·simp only[h,if_false] <;>omega
 ·cases hi with
  | none=>simp[sliceBounds,HT.sIx]
  | some i =>
   simp only[sliceBounds,HT.sIx,Option.getD_none,show(1:Int) > 0 by decide,if_true]
   by_cases h:i<0
   ·simp only[h,if_true] <;>omega
   ·simp only[h,if_false] <;>omega
theorem zca (its:List Value)(lo hi:Option Int):slicePick its.toArray lo hi none=((its.drop (HT.sIx its.length 0 lo)).take (HT.sIx its.length its.length hi - HT.sIx its.length 0 lo)).toArray:=by
 obtain⟨h1,h2,h3⟩:=zcJ lo hi its.toArray.size
 unfold slicePick
 rw[h1,h2,h3]
 simp only[sliceRange_one,pick_run,List.size_toArray] <;>rfl
def znb (K:PySem.W.Frag):V→Option Int→Option Int→Hp→VK→Prop:=fun x lo hi H Q=>∃a xs,x=.ref a∧SqL K H a xs∧∀p,H p=none→Q (.ref p) (upd H p (.lst (zge xs lo hi)))
theorem zj6:SlR X (znb X.K):=by
 intro pins s σ H x v vl vu lo hi sl Q I rx hs pl pu h
 obtain⟨a,xs,rfl,hx,q⟩:=h
 cases rx
 obtain⟨its,r,ht,hz⟩:=I.list hx
 have hlen:=r.length
 refine⟨"list", _,slot_list_getitem.lookup,ht.isList.typeIs,?_⟩
 refine wpAny_getItem_list_slice ht.isList hs pl pu .none (by simp) ?_ (by rw[List.size_toArray] <;>omega)
 rw[zca,← hlen]
 refine⟨.ref s.heap.objs.size,_,I.laid (t':=s.toks) (o:=.lst (zge xs lo hi)) (fun b ob q=>Heap.get?_push_of_some _ q) (Nat.le_refl _) ?_,rfl,q _ (I.hok.fresh (Nat.le_refl _))⟩
 exact⟨Nat.le_trans (zba xs lo hi) hz,_,0,(r.drop (HT.sIx xs.length 0 lo)).take (HT.sIx xs.length xs.length hi - HT.sIx xs.length 0 lo),Heap.get?_push_size _ rfl⟩
def uD:V→Bool
 | .non=>true
 | .bl _=>true
 | .int _=>true
 | .str _=>true
 | _=>false
def eqV:V→V→Bool
 | .non,.non=>true
 | .bl a,.bl b=>a == b
 | .bl a,.int b=>(if a then 1 else 0) == b
 | .int a,.bl b=>a == (if b then 1 else 0)
 | .int a,.int b=>a == b
 | .str a,.str b=>a == b
 | _,_=>false
theorem zlj {A:Around}{s:Shared}{y x:V}{u v:Value}(ry:RelV y u)(rx:RelV x v)(fy:uD y=true)(fx:uD x=true):SeqAt.EqAt A s u v (eqV y x):=by
 cases y with
 | non =>
  cases ry
  cases x with
  | non=>cases rx;exact SeqAt.EqAt.same _
  | bl b=>cases rx;exact SeqAt.EqAt.none_bool b
  | int b=>obtain⟨t,rfl⟩:=rx;exact SeqAt.EqAt.none_int b t
  | str b=>obtain⟨t,rfl⟩:=rx;exact SeqAt.EqAt.none_str b t
  | _=>exact absurd (show false=true from fx) Bool.false_ne_true
 | bl a =>
  cases ry
  cases x with
  | non=>cases rx;exact SeqAt.EqAt.bool_none a
  | bl b=>cases rx;exact SeqAt.EqAt.bool_bool a b
  | int b=>obtain⟨t,rfl⟩:=rx;exact SeqAt.EqAt.bool_int a b t
  | str b=>obtain⟨t,rfl⟩:=rx;exact SeqAt.EqAt.bool_str a b t
  | _=>exact absurd (show false=true from fx) Bool.false_ne_true
 | int a =>
  obtain⟨t',rfl⟩:=ry
  cases x with
  | non=>cases rx;exact SeqAt.EqAt.int_none a t'
  | bl b=>cases rx;exact SeqAt.EqAt.int_bool a t' b
  | int b=>obtain⟨t,rfl⟩:=rx;exact SeqAt.EqAt.int_int a t' b t
  | str b=>obtain⟨t,rfl⟩:=rx;exact SeqAt.EqAt.int_str a t' b t
  | _=>exact absurd (show false=true from fx) Bool.false_ne_true
 | str a =>
  obtain⟨t',rfl⟩:=ry
  cases x with
  | non=>cases rx;exact SeqAt.EqAt.str_none a t'
  | bl b=>cases rx;exact SeqAt.EqAt.str_bool a t' b
  | int b=>obtain⟨t,rfl⟩:=rx;exact SeqAt.EqAt.str_int a t' b t
  | str b=>obtain⟨t,rfl⟩:=rx;exact SeqAt.EqAt.str_str a t' b t
  | _=>exact absurd (show false=true from fx) Bool.false_ne_true
 | _=>exact absurd (show false=true from fy) Bool.false_ne_true
def eqU (x:V)(u:Value):Bool:=match u with
 | .none=>eqV .non x
 | .bool b=>eqV (.bl b) x
 | .int i _=>eqV (.int i) x
 | .str z _=>eqV (.str z) x
 | _=>false
theorem zex {x y:V}{u:Value}(r:RelV y u)(f:uD y=true):eqU x u=eqV y x:=by
 cases y with
 | non=>cases r;rfl
 | bl b=>cases r;rfl
 | int i=>obtain⟨t,rfl⟩:=r;rfl
 | str z=>obtain⟨t,rfl⟩:=r;rfl
 | _=>exact absurd (show false=true from f) Bool.false_ne_true
theorem zdY {x:V}:∀{xs:List V}{us:List Value},Vals xs us→xs.all uD=true→us.any (eqU x)=xs.any fun y=>eqV y x
 | _,_,.nil,_=>rfl
 | y::xs,u::us,.cons r t,f=>by
  rw[List.all_cons,Bool.and_eq_true] at f
  rw[List.any_cons,List.any_cons,zex r f.1,zdY t f.2]
theorem qZ {A:Around}{s:Shared}{x:V}{v:Value}(rx:RelV x v)(fx:uD x=true):∀{xs:List V}{us:List Value},Vals xs us→xs.all uD=true→∀u∈us,SeqAt.EqAt A s u v (eqU x u)
 | _,_,.nil,_=>fun u hu=>by cases hu
 | y::xs,u::us,.cons r t,f=>fun u' hu=>by
  rw[List.all_cons,Bool.and_eq_true] at f
  rcases List.mem_cons.mp hu with rfl|hu
  ·rw[zex r f.1];exact zlj r rx f.1 fx
  ·exact qZ rx fx t f.2 u' hu
def inV (x:V)(xs:List V):Bool:=xs.any fun y=>eqV y x
def rIn (K:PySem.W.Frag)(neg:Bool):R2:=fun x y H Q=>∃p xs,y=.ref p∧(SqL K H p xs∨SqT K H p xs)∧uD x=true∧xs.all uD=true∧Q (.bl (if neg then !inV x xs else inV x xs)) H
theorem uI:OpR X (compareOp .NotIn) (rIn X.K true):=by
 intro pins s σ H x y v u Q I rx ry h
 obtain⟨p,xs,rfl,hq,fx,fs,q⟩:=h
 cases ry
 rcases hq with hq|hq
 ·obtain⟨its,r,pl,hz⟩:=I.list hq
  refine SeqAt.notIn_listAt (eqU x) pl.isList (fun w hw=>qZ rx fx r fs w (by simpa using hw)) ⟨.bl _,H,I,rfl,?_⟩
  rw[show its.toArray.any (eqU x)=its.any (eqU x) by simp,zdY r fs]
  exact q
 ·obtain⟨its,r,pl,hz⟩:=I.tuple hq
  refine SeqAt.notIn_tupleAt (eqU x) pl (fun w hw=>qZ rx fx r fs w (by simpa using hw)) ⟨.bl _,H,I,rfl,?_⟩
  rw[show its.toArray.any (eqU x)=its.any (eqU x) by simp,zdY r fs]
  exact q
theorem zb5:qR X (.type "tuple") (fun xs H Q=>∃p ys,xs=[.ref p]∧((SqL X.K H p ys∧∀l,H l=none→Q (.ref l) (upd H l (.tup ys)))∨(SqT X.K H p ys∧Q (.ref p) H))):=by
 intro pins s σ H xs us Q I r h
 obtain⟨p,ys,rfl,h⟩:=h
 obtain⟨u,rfl,rx⟩:=vals1 r
 cases rx
 rcases h with⟨hq,q⟩|⟨hq,q⟩
 ·obtain ⟨its,r',pl,hz⟩:=I.list hq
  have hlen:=r'.length
  refine call_tuple_list pl.isList (fun h' kp=>?_) (by simp only[List.size_toArray] <;>omega)
  have I1:Inv X pins σ H {s with heap:=h'}:=I.kept (t':=s.toks) kp
  have I2:Inv X pins σ (upd H h'.objs.size (.tup ys)) {s with heap:=h'.push {cls:=.type "tuple", data:=.seq its.toArray} } :=
   I1.laid (t':=s.toks) (fun b o e=>Heap.get?_push_of_some _ e) (Nat.le_refl _) (show ObjOk X.prog X.w _ _ _ (.tup ys) from⟨hz,its,r',TupD.new _ _⟩)
  exact⟨.ref h'.objs.size,_,I2,rfl,q _ (I1.hok.fresh (Nat.le_refl _))⟩
 ·obtain⟨its,r',pl,hz⟩:=I.tuple hq
  exact call_tuple_same pl ⟨.ref p,H,I,rfl,q⟩
def tyV (K:PySem.W.Frag)(T:String)(x:V)(H:Hp):Prop:=match x with
 | .str _=>T = "str"
 | .int _=>T = "int"
 | .ref p=>(T = "list" ∧ ∃xs,SqL K H p xs)∨(T = "tuple" ∧ ∃o,K.lookup p=some o∧o.cls=.type "tuple" ∧ o.dict=none) ∨
   (T = "dict" ∧ ((∃kvs,H p=some (.dK kvs))∨∃kvs,H p=some (.dT kvs)))∨(T = "set" ∧ ∃S n,H p=some (.set S n))
 | _=>False
theorem zk3 {pins:List (Addr×Obj)}{σ:St}{H:Hp}{s:Shared}{T:String}{x:V}{v:Value}(I:Inv X pins σ H s)(r:RelV x v)(ty:tyV X.K T x H) :
  s.TypeIs v T∧∀a,v=.ref a→∃ob,s.heap.get? a=some ob∧ob.dict=none:=by
 cases x with
 | str z =>
  obtain⟨t,rfl⟩:=r
  cases (show T = "str" from ty)
  exact⟨typeIs_str s z t,fun _ e=>nomatch e⟩
 | int i =>
  obtain⟨t,rfl⟩:=r
  cases (show T = "int" from ty)
  exact⟨typeIs_int s i t,fun _ e=>nomatch e⟩
 | ref p =>
  cases r
  rcases ty with⟨rfl,xs,hq⟩|⟨rfl,o,hk,hc,hd⟩|⟨rfl,hk⟩|⟨rfl,S,n,hk⟩
  ·obtain⟨its,_,pl,_⟩:=I.list hq
   refine⟨pl.isList.typeIs,fun a e=>?_⟩
   cases e
   obtain⟨o,n,e,c,hd,_⟩:=pl
   exact⟨o,e,hd⟩
  ·refine⟨⟨o,I.kIn p o hk,hc⟩,fun a e=>?_⟩
   cases e
   exact⟨o,I.kIn _ o hk,hd⟩
  ·have z:∃o,s.heap.get? p=some o∧o.ExactDict:=by
    rcases hk with⟨kvs,hk⟩|⟨kvs,hk⟩
    ·obtain⟨_,_,_,_,o,_,_,e,ex,_⟩:=I.hok p _ hk
     exact⟨o,e,ex⟩
    ·obtain⟨_,_,_,_,o,_,_,e,ex,_⟩:=I.hok p _ hk
     exact⟨o,e,ex⟩
   obtain⟨o,e,ex⟩:=z
   refine⟨⟨o,e,ex.1⟩,fun a e2=>?_⟩
   cases e2
   exact⟨o,e,ex.2.1⟩
  ·obtain⟨o,_,_,_,e,ex,_⟩:=I.hok p _ hk
   refine⟨⟨o,e,ex.1⟩,fun a e2=>?_⟩
   cases e2
   exact⟨o,e,ex.2.1⟩
 | _=>exact False.elim ty
def tBM (K:PySem.W.Frag)(T:String)(r:V→List V→Hp→VK→Prop)(to:TE)(t:TA):TE:=fun σ H Q=>to σ H fun x H1=>tyV K T x H1∧t σ H1 fun xs H2=>r x xs H2 Q
variable {o e:Expr}{es:List Expr}{to:TE}{t:TA}{name:Str}{apos cpos:Pos}{T id:String}{r:V→List V→Hp→VK→Prop}
theorem zd8 (pa:PlainAttrs T)(slot:Slot T name id)(hty:typeOf (.builtin id)=pure (.type "method_descriptor"))(hm:MtR X id r)(ho:PE X o to)(ha:PA X (e::es) t)
  (hbase:attributeBase o name X.env (eval o X.env)=eval o X.env:=by rfl)
  (hfew:((backTo cpos (starEach (e::es) X.env)).all (fun x=>!x.1)&&(backToKw cpos (keywordEach [] X.env)).all (fun x=>x.1.isSome)
   && decide ((e::es).length+([]:List Keyword).length+(if ([]:List Keyword).isEmpty then 0 else 1)<30))=true:=by rfl)
  (hline:(apos.endLine == cpos.line)=true:=by rfl) (hs:starEach (e::es) X.env=(false,eval e X.env)::starEach es X.env:=by rfl) (hplain:(backTo cpos (starEach es X.env)).any (·.1)=false:=by rfl) :
  PE X (.Call (.Attribute o name apos) (e::es) [] cpos) (tBM X.K T r to t):=by
 intro pins s σ H Q I h
 refine wpAny_Call_method_late hbase hfew hline rfl (thn (ho pins s σ H _ I h) fun v s1 hq24=>?_)
 obtain⟨x,H1,I1,r1,ty,q1⟩:=hq24
 obtain⟨h1,h2⟩:=zk3 I1 r1 ty
 refine⟨T,id,pa,slot,hty,h1,h2,?_⟩
 have hA:=ha cpos pins s1 σ H1 _ I1 q1
 rw[hs] at hA ⊢
 refine Calls.callWith_builtin (by show(false || (backTo cpos (starEach es X.env)).any (·.1))=false;rw[hplain] <;>rfl) (Calls.evalArgs_plain ?_)
 exact thn hA fun us s2 ⟨vs,H2,I2,r2,q2⟩=>hm pins s2 σ H2 x vs v us Q I2 r1 r2 q2
/- xs.append(e), list.index on a module's tuple .. are MtR facts of 06m -/
end
end L2
namespace L2
open PySem PySem.Spec PyProof.Rows
def MtM (X:Cx)(id:String)(r:V→List V→Hp→VK→Prop):Prop :=
 ∀ (pins:List (Addr×Obj)) (s:Shared) (σ:St) (H:Hp) (x:V) (xs:List V) (v:Value) (us:List Value) (Q:VK),Inv X pins σ H s→RelV x v→Vals xs us→r x xs H Q →
  wpAny (model X.prog X.w) X.A (call (.builtin id) (v::us)) (EP X pins σ Q) X.xe s
theorem Vals.one:∀{x:V}{us:List Value},Vals [x] us→∃u,us=[u]∧RelV x u:=by
 intro x us h
 cases h with
 | cons r t=>cases t;exact⟨_,rfl,r⟩
theorem Vals.two:∀{x y:V}{us:List Value},Vals [x,y] us→∃u v,us=[u,v]∧RelV x u∧RelV y v:=by
 intro x y us h
 cases h with
 | cons r t=>obtain⟨v,rfl,q⟩:=Vals.one t;exact⟨_,_,rfl,r,q⟩
theorem Vals.eraseIdx:∀{xs:List V}{us:List Value} (i:Nat),Vals xs us→Vals (xs.eraseIdx i) (us.eraseIdx i)
 | _,_,_,.nil=>.nil
 | _,_,0,.cons _ t=>t
 | _,_,i+1,.cons r t=>.cons r (Vals.eraseIdx i t)
theorem Vals.rep {xs:List V}{us:List Value}(h:Vals xs us):∀k:Nat,Vals (List.replicate k xs).flatten (List.replicate k us).flatten
 | 0=>.nil
 | k+1=>by
  rw[List.replicate_succ,List.replicate_succ,List.flatten_cons,List.flatten_cons]
  exact Vals.append h (Vals.rep h k)
theorem zdl {α:Type}:∀(l:List α) (i:Nat),(l.eraseIdx i).length≤l.length
 | [],_=>Nat.le_refl _
 | _::_,0=>Nat.le_succ _
 | _::r,i+1=>Nat.succ_le_succ (zdl r i)
theorem foldl_rep (its:List Value):∀(k:Nat) (acc:List Value),
  List.foldl (fun x1 x2=>x1++x2) acc.toArray (List.replicate k its.toArray)=(acc++(List.replicate k its).flatten).toArray
 | 0,acc=>by simp
 | k+1,acc=>by
  have e:acc.toArray++its.toArray=(acc++its).toArray:=by simp
  have e2:(acc++its)++(List.replicate k its).flatten=acc++(List.replicate (k+1) its).flatten:=by
   rw[List.replicate_succ,List.flatten_cons,List.append_assoc]
  rw[← e2,← foldl_rep its k (acc++its),← e,List.replicate_succ,List.foldl_cons]
section
variable {X:Cx}{pins:List (Addr×Obj)}{σ:St}{H:Hp}{s:Shared}{l b:Addr}{xs ys zs:List V}
theorem Inv.lset {its its':List Value}{n:Nat}{f:Array Value→Array Value}{t':Nat}(I:Inv X pins σ H s)(hH:H l=some (.lst xs))
  (e:s.heap.get? l=some {cls:=.type "list", data:=.seq its.toArray n}) (hf:f its.toArray=its'.toArray) (hv:Vals ys its') (hz:ys.length≤sizeLine) :
  Inv X pins σ (upd H l (.lst ys)) {s with heap:=s.heap.update l (Obj.mapSeq f),toks:=t'}:=by
 have q:=PySem.IsL.update e f
 rw[hf] at q
 refine I.write (x:=l) (e:=l) (by rw[hH];exact trivial) (.inl rfl) (fun b' u hb hu=>(Heap.get?_update_other s.heap (Obj.mapSeq f) (Ne.symm hb)).trans hu) ⟨_,q⟩ ?_
 exact⟨hz,its',_,hv,q⟩
theorem Inv.lnew {its:List Value}{t':Nat}(I:Inv X pins σ H s)(hv:Vals ys its)(hz:ys.length≤sizeLine) :
  Inv X pins σ (upd H s.heap.objs.size (.lst ys)) {s with heap:=s.heap.push {cls:=.type "list", data:=.seq its.toArray},toks:=t'} :=
 I.laid (fun _ _ q=>Heap.get?_push_of_some _ q) (Nat.le_refl _) ⟨hz,its,0,hv,Heap.get?_push_size _ rfl⟩
theorem Inv.fresh (I:Inv X pins σ H s):H s.heap.objs.size=none:=I.hok.fresh (Nat.le_refl _)
theorem Inv.lstM (I:Inv X pins σ H s)(hH:H l=some (.lst xs)):xs.length≤sizeLine∧∃(its:List Value) (n:Nat),Vals xs its∧xs.length=its.length∧s.heap.get? l=some {cls:=.type "list", data:=.seq its.toArray n}:=by
 obtain⟨z,its,n,r,e⟩:=I.hok l _ hH
 exact⟨z,its,n,r,r.length,e⟩
theorem zik {n:Nat}(h:n≤sizeLine):Builtin.List.listTooLong n=false:=by
 unfold Builtin.List.listTooLong
 exact decide_eq_false (by omega)
end
section
variable {X:Cx}
def zjp:V→List V→Hp→VK→Prop:=fun x vs H Q=>∃l xs y,x=.ref l∧vs=[y]∧H l=some (.lst xs)∧xs.length<sizeLine∧Q .non (upd H l (.lst (xs++[y])))
theorem zgU:MtM X "list.append" zjp:=by
 intro pins s σ H x vs v us Q I rx rv h
 obtain⟨l,xs,y,rfl,rfl,hH,hz,q⟩:=h
 cases rx
 obtain⟨u,rfl,ru⟩:=rv.one
 obtain⟨z,its,n,r,hl,e⟩:=I.lstM hH
 refine call_meets F.slot_list_append ⟨_,e,rfl⟩ F.entry_list_append (F.args_list_append_2 _ _) (PySem.list_append l its.toArray n u (by rw[List.size_toArray];omega)) ⟨e,?_⟩
 refine⟨.non,_,I.lset (its':=its++[u]) hH e (by simp) (r.append (.cons ru .nil)) ?_,rfl,q⟩
 rw[List.length_append,List.length_singleton]
 omega
def zkD:V→List V→Hp→VK→Prop:=fun x vs H Q=>∃l xs i k y,x=.ref l∧vs=[.int i]∧H l=some (.lst xs)∧-(2 ^ 63)≤i∧i<2 ^ 63∧seqIndex? i xs.length=some k∧xs[k]? = some y∧Q y (upd H l (.lst (xs.eraseIdx k)))
theorem zij:MtM X "list.pop" zkD:=by
 intro pins s σ H x vs v us Q I rx rv h
 obtain⟨l,xs,i,k,y,rfl,rfl,hH,h1,h2,hk,hy,q⟩:=h
 cases rx
 obtain⟨u,rfl,ru⟩:=rv.one
 obtain⟨t,rfl⟩:=ru
 obtain⟨z,its,n,r,hl,e⟩:=I.lstM hH
 obtain⟨w,hw,rw'⟩:=r.get hy
 refine call_meets F.slot_list_pop ⟨_,e,rfl⟩ F.entry_list_pop (F.args_list_pop_2 _ _)
  (MeetsSeq.list_pop_at l its.toArray n i t k w (fitsIndex_both h1 h2) (by rw[List.size_toArray,← hl];exact hk) (by rw[← Array.getElem?_toList];exact hw) (by rw[List.size_toArray];omega)) ⟨e,?_⟩
 refine⟨y,_,I.lset (its':=its.eraseIdx k) hH e ?_ (r.eraseIdx k) ?_,rw',q⟩
 ·show its.toArray.eraseIdxIfInBounds k=(its.eraseIdx k).toArray
  rw[List.eraseIdxIfInBounds_toArray]
 ·have:=zdl xs k
  omega
theorem len_rep {α:Type}(xs:List α)(k:Nat):(List.replicate k xs).flatten.length=k*xs.length:=by
 induction k with
 | zero=>simp
 | succ k ih=>rw[List.replicate_succ,List.flatten_cons,List.length_append,ih,Nat.succ_mul,Nat.add_comm]
end
end L2
namespace L2
open PySem PySem.Spec PyProof.Rows
section
variable {κ:Type} [DecidableEq κ]
def zc1 (kvs:List (κ×V))(k:κ):Option V:=(kvs.find? fun kv=>decide (kv.1=k)).map (·.2)
def putK (kvs:List (κ×V))(k:κ)(v:V):List (κ×V) :=
 if (kvs.any fun kv=>decide (kv.1=k))=true then kvs.map (fun kv=>if kv.1=k then(kv.1,v) else kv) else kvs++[(k,v)]
def zll (kvs:List (κ×V))(k:κ):List (κ×V):=kvs.filter fun kv=>decide (kv.1≠k)
theorem zey {p:κ×V}{r:List (κ×V)}{k:κ}(e:p.1=k):zc1 (p::r) k=some p.2:=by simp[zc1,List.find?_cons,e]
theorem zeI {p:κ×V}{r:List (κ×V)}{k:κ}(e:¬p.1=k):zc1 (p::r) k=zc1 r k:=by simp[zc1,List.find?_cons,e]
theorem zdN (kvs:List (κ×V))(k:κ)(v:V):(putK kvs k v).length≤kvs.length+1:=by
 unfold putK
 split
 ·rw[List.length_map];omega
 ·rw[List.length_append,List.length_cons,List.length_nil];omega
theorem RelO.isSome_eq {o:Option V}{u:Option Value}(r:RelO o u):o.isSome=u.isSome:=by
 cases o with
 | none=>cases u with
  | none=>rfl
  | some _=>exact(show False from r).elim
 | some _=>cases u with
  | none=>exact(show False from r).elim
  | some _=>rfl
theorem RelO.getD {o:Option V}{u:Option Value}{d:V}{d':Value}(r:RelO o u)(rd:RelV d d'):RelV (o.getD d) (u.getD d'):=by
 cases o with
 | none=>cases u with
  | none=>exact rd
  | some _=>exact(show False from r).elim
 | some _=>cases u with
  | none=>exact(show False from r).elim
  | some _=>exact r
theorem KV.val {kvs:List (κ×V)}{vs:List (κ×Value)}(r:KV kvs vs)(k:κ):RelO (zc1 kvs k) (valueAt vs k):=by
 unfold KV at r
 induction r with
 | nil=>exact True.intro
 | @cons p q ps qs h t ih =>
  obtain⟨h1,h2⟩:=h
  by_cases e:p.1=k
  ·have e':q.1=k:=h1.symm.trans e
   have b:valueAt (q::qs) k=some q.2:=by simp[valueAt,List.find?_cons,e']
   rw[zey e,b];exact h2
  ·have e':¬q.1=k:=fun z=>e (h1.trans z)
   have b:valueAt (q::qs) k=valueAt qs k:=by simp[valueAt,List.find?_cons,e']
   rw[zeI e,b];exact ih
theorem KV.any {kvs:List (κ×V)}{vs:List (κ×Value)}(r:KV kvs vs)(k:κ):(kvs.any fun kv=>decide (kv.1=k))=vs.any fun kv=>decide (kv.1=k):=by
 unfold KV at r
 induction r with
 | nil=>rfl
 | cons h t ih=>rw[List.any_cons,List.any_cons,ih,h.1]
theorem KV.repl {kvs:List (κ×V)}{vs:List (κ×Value)}(r:KV kvs vs)(k:κ){y:V}{u:Value}(ry:RelV y u) :
  KV (kvs.map fun kv=>if kv.1=k then(kv.1,y) else kv) (vs.map fun kv=>if kv.1=k then(kv.1,u) else kv):=by
 unfold KV at r ⊢
 induction r with
 | nil=>exact .nil
 | @cons p q ps qs h t ih =>
  rw[List.map_cons,List.map_cons]
  refine .cons ?_ ih
  obtain⟨h1,h2⟩:=h
  by_cases e:p.1=k
  ·rw[if_pos e,if_pos (h1.symm.trans e)];exact⟨h1,ry⟩
  ·rw[if_neg e,if_neg (fun z=>e (h1.trans z))];exact⟨h1,h2⟩
theorem KV.put {kvs:List (κ×V)}{vs:List (κ×Value)}(r:KV kvs vs)(k:κ){y:V}{u:Value}(ry:RelV y u):KV (putK kvs k y) (stored vs k u):=by
 unfold putK stored
 rw[r.any k]
 by_cases e:(vs.any fun kv=>decide (kv.1=k))=true
 ·rw[if_pos e,if_pos e];exact r.repl k ry
 ·rw[if_neg e,if_neg e];exact Paired.snoc r ⟨rfl,ry⟩
theorem KV.drop {kvs:List (κ×V)}{vs:List (κ×Value)}(r:KV kvs vs)(k:κ):KV (zll kvs k) (without vs k):=by
 unfold KV at r ⊢
 unfold zll without
 induction r with
 | nil=>exact .nil
 | @cons p q ps qs h t ih =>
  obtain⟨h1,h2⟩:=h
  rw[List.filter_cons,List.filter_cons]
  by_cases e:p.1=k
  ·have a:¬decide (p.1≠k)=true:=by simp[e]
   have b:¬decide (q.1≠k)=true:=by simp[h1.symm.trans e]
   rw[if_neg a,if_neg b];exact ih
  ·have e':¬q.1=k:=fun z=>e (h1.trans z)
   have a:decide (p.1≠k)=true:=by simp[e]
   have b:decide (q.1≠k)=true:=by simp[e']
   rw[if_pos a,if_pos b];exact .cons ⟨h1,h2⟩ ih
theorem KV.keys {kvs:List (κ×V)}{vs:List (κ×Value)}(r:KV kvs vs):kvs.map (·.1)=vs.map (·.1):=by
 unfold KV at r
 induction r with
 | nil=>rfl
 | cons h t ih=>rw[List.map_cons,List.map_cons,ih,h.1]
theorem KV.length {kvs:List (κ×V)}{vs:List (κ×Value)}(r:KV kvs vs):kvs.length=vs.length:=Paired.length r
end
theorem zjO {P:Program}{w:World}{k:Key}{u:Value}(r:RelV (kV k) u):(ux P w).is k u=true:=by
 cases k with
 | inl i=>obtain⟨t,e⟩:=(show ∃t,u=Value.int i t from r);subst e;exact zdR P w i t
 | inr x=>obtain⟨t,e⟩:=(show ∃t,u=Value.str x t from r);subst e;exact zaS P w x t
theorem zc0 {P:Program}{w:World}:∀{ks:List Key}{us:List Value},Vals (ks.map kV) us→ItemsAre (ux P w) ks us
 | [],_,r=>by rw[List.map_nil] at r;cases r;exact .nil
 | k::ks,_,r=>by
  rw[List.map_cons] at r
  cases r with
  | cons h t=>exact .cons (zjO h) (zc0 t)
abbrev KT (H:Hp):List (List Key×V)→List (List Key×Addr×Value)→Prop:=Paired fun p q=>p.1=q.1∧H q.2.1=some (.tup (p.1.map kV))∧RelV p.2 q.2.2
theorem KT.val {H:Hp}{kvs:List (List Key×V)}{xs:List (List Key×Addr×Value)}(r:KT H kvs xs)(k:List Key):RelO (zc1 kvs k) ((atKey xs k).map (·.2)):=by
 induction r with
 | nil=>exact True.intro
 | @cons p q ps qs h t ih =>
  obtain⟨h1,_,h2⟩:=h
  by_cases e:p.1=k
  ·have e':q.1=k:=h1.symm.trans e
   have b:atKey (q::qs) k=some q.2:=by simp[atKey,List.find?_cons,e']
   rw[zey e,b];exact h2
  ·have e':¬q.1=k:=fun z=>e (h1.trans z)
   have b:atKey (q::qs) k=atKey qs k:=by simp[atKey,List.find?_cons,e']
   rw[zeI e,b];exact ih
section
variable {P:Program}{w:World}{H:Hp}{h:Heap}{a:Addr}
theorem zlJ {u:HO}(ok:HOk P w H h)(e:Rd H a u):ObjOk P w H h a u:=e.ok ok
theorem zjf {kvs:List (Key×V)}(ok:HOk P w H h)(e:Rd H a (.dK kvs)):kvs.length≤sizeLine∧(a == sysModules)=false∧∃vs,KV kvs vs∧h.DictOf (ux P w) a vs :=
 show ObjOk P w H h a (.dK kvs) from zlJ ok e
theorem zgB {ks:List Key}(ok:HOk P w H h)(e:H a=some (.tup (ks.map kV))):(tupleKind (ux P w)).is h ks a:=by
 obtain⟨_,its,r,o,h1,h2,⟨n,h3⟩,_⟩:=(show ObjOk P w H h a (.tup (ks.map kV)) from ok a _ e)
 exact⟨o,its.toArray,n,h1,h2,h3,by simpa using zc0 r⟩
theorem zjA {kvs:List (List Key×V)}(ok:HOk P w H h)(e:Rd H a (.dT kvs)):kvs.length≤sizeLine∧(a == sysModules)=false ∧
  ∃xs,KT H kvs xs∧h.DictOfH (tupleKind (ux P w)) a xs:=by
 obtain⟨z,y,xs,r,o,es,ep,h1,h2,h3,h4,h5⟩:=(show ObjOk P w H h a (.dT kvs) from zlJ ok e)
 refine⟨z,y,xs,r,o,es,ep,h1,h2,h3,h4,fun x hx=>?_,h5⟩
 have all:∀{l:List (List Key×V)}{m:List (List Key×Addr×Value)},KT H l m→∀x∈m,(tupleKind (ux P w)).is h x.1 x.2.1:=by
  intro l m q
  induction q with
  | nil=>intro x hx;exact nomatch hx
  | @cons p q ps qs hq t ih =>
   intro x hx
   rcases List.mem_cons.mp hx with e|hx
   ·subst e
    exact zgB ok (by rw[← hq.1];exact hq.2.1)
   ·exact ih x hx
 exact all r x hx
end
def DGet (H:Hp)(a:Addr)(y:V)(r:Option V):Prop :=
 (∃kvs k,Rd H a (.dK kvs)∧y=kV k∧r=zc1 kvs k)∨∃kvs k b,Rd H a (.dT kvs)∧y=.ref b∧H b=some (.tup (k.map kV))∧r=zc1 kvs k
theorem DGet.k {H:Hp}{a:Addr}{kvs:List (Key×V)}{k:Key}(e:H a=some (.dK kvs)):DGet H a (kV k) (zc1 kvs k):=.inl ⟨kvs,k,.inl e,rfl,rfl⟩
section
variable {X:Cx}{pins:List (Addr×Obj)}{σ:St}{H:Hp}{s:Shared}{a:Addr}{y v:V}{u r:Value}{o:Option V}{A:Around}{E:Value→Shared→Prop}
theorem Inv.big (I:Inv X pins σ H s):sysModules<s.heap.objs.size:=by
 have h:mainGlobals<s.heap.objs.size:=(I.mod.glob.keeps I.bk).lt
 exact Nat.lt_trans (by decide) h
theorem zf5 {Q:Value→Shared→Prop}(hu:A.units+1<cLine)(I:Inv X pins σ H s)(g:DGet H a y (some v))(ry:RelV y u)(h:∀w' s',Inv X pins σ H s'→RelV v w'→Q w' s') :
  wpAny (model X.prog X.w) A (getItem (.ref a) u) Q E s:=by
 rcases g with⟨kvs,k,e,ey,l⟩|⟨kvs,k,b,e,ey,eb,l⟩
 ·subst ey
  obtain⟨z,hd,vs,rel,dd⟩:=zjf I.hok e
  obtain⟨w',hw,rw'⟩:=RelO.some_of (v:=v) (o:=valueAt vs k) (by rw[l];exact rel.val k)
  exact wpAny_getItem_of (zjO ry) dd.mapOf hw (h w' _ (I.tok _) rw')
 ·subst ey
  cases (show u=Value.ref b from ry)
  obtain⟨z,hd,xs,rel,dd⟩:=zjA I.hok e
  obtain⟨w',hw,rw'⟩:=RelO.some_of (v:=v) (o:=(atKey xs k).map (·.2)) (by rw[l];exact rel.val k)
  obtain⟨p,hp,hp2⟩:=Option.map_eq_some_iff.mp hw
  refine wpAny_getItem_heap (tupleKind_room_in1 hu) (zgB I.hok eb) dd hp ?_
  rw[hp2]
  exact h w' _ (I.tok _) rw'
theorem zjJ {Q:Value→Shared→Prop}(hu:A.units+1<cLine)(I:Inv X pins σ H s)(g:DGet H a y o)(ry:RelV y u)(h:∀s',Inv X pins σ H s'→Q (.bool (!o.isSome)) s') :
  wpAny (model X.prog X.w) A (compareOp .NotIn u (.ref a)) Q E s:=by
 rcases g with⟨kvs,k,e,ey,l⟩|⟨kvs,k,b,e,ey,eb,l⟩
 ·subst ey
  obtain⟨z,hd,vs,rel,dd⟩:=zjf I.hok e
  refine wpAny_notIn_of (zjO ry) hd dd.mapOf ?_
  rw[← (rel.val k).isSome_eq,← l]
  exact h _ (I.tok _)
 ·subst ey
  cases (show u=Value.ref b from ry)
  obtain⟨z,hd,xs,rel,dd⟩:=zjA I.hok e
  refine wpAny_notIn_heap (tupleKind_room_in1 hu) (zgB I.hok eb) hd dd ?_
  have q:=(rel.val k).isSome_eq
  rw[Option.isSome_map] at q
  rw[← q,← l]
  exact h _ (I.tok _)
end
def zmj (i:Expr):Prop:=∀ov iv,subscripted i false ov iv=operate [ov,iv] (getItem ov iv)
theorem zjV {prog:Program}{w:World}{A:Around}{E:Value→Shared→Prop}{s:Shared}{env:Env}{value slice:Expr}{pos:Pos}{T id:String}{Q:Value→Shared→Prop}
  (hl:typeLookup (.type T) "__getitem__" = pure (some (.builtin id))) (hs:zmj slice)
  (h:wpAny (model prog w) A (eval value env) (fun o s₁=>wpAny (model prog w) A (eval slice env) (fun i s₂=>s₂.TypeIs o T∧wpAny (model prog w) A (getItem o i) Q E s₂) E s₁) E s) :
  wpAny (model prog w) A (eval (.Subscript value slice pos) env) Q E s:=by
 refine Subscript_ (wpAny_mono h (fun o s₁ h₁=>wpAny_mono h₁ (fun i s₂ h₂=>?_) fun _ _ x=>x) fun _ _ x=>x)
 obtain⟨hT,h₂⟩:=h₂
 unfold subscriptTail
 refine wpAny_bind ?_
 rw[getitemInPython_of_ne hT.not_modules]
 refine wpAny_bind (wpAny_specialOf hT hl ?_)
 have fin:wpAny (model prog w) A (subscripted slice false o i) (fun r s₃=>wpAny (model prog w) A (letTemporaryGo value o r >>= fun _=>pure r) Q E s₃) E s₂:=by
  rw[hs o i]
  exact wpAny_operating (wpAny_mono h₂ (fun r s₃ h₃=>wpAny_bind (wpAny_letTemporaryGo (wpAny_pure h₃))) fun _ _ x=>x)
 first
  | exact wpAny_pure (wpAny_bind fin)
  | exact wpAny_bind (wpAny_pure (wpAny_bind fin))
  | exact wpAny_bind fin
theorem zdU {X:Cx}{pins:List (Addr×Obj)}{σ:St}{H:Hp}{s:Shared}{a:Addr}{y:V}{o:Option V}(I:Inv X pins σ H s)(g:DGet H a y o):s.TypeIs (.ref a) "dict" := by
 rcases g with⟨kvs,k,e,_,_⟩|⟨kvs,k,b,e,_,_,_⟩
 ·obtain⟨_,_,vs,_,dd⟩:=zjf I.hok e
  exact dd.typeIs
 ·obtain⟨_,_,xs,_,dd⟩:=zjA I.hok e
  exact dd.typeIs
def zmq (td ty:TE):TE:=fun σ H Q=>td σ H fun x H1=>ty σ H1 fun y H2=>∃a v,x=.ref a∧DGet H2 a y (some v)∧Q v H2
def zjy (ty td:TE):TE:=fun σ H Q=>ty σ H fun y H1=>td σ H1 fun x H2=>∃a o,x=.ref a∧DGet H2 a y o∧Q (.bl (!o.isSome)) H2
section
variable {X:Cx}{o i e value:Expr}{pos pos' tpos:Pos}{td ty tv:TE}
theorem zjN (hu:X.A.units+1<cLine)(ho:PE X o td)(hi:PE X i ty)(hs:zmj i):PE X (.Subscript o i pos) (zmq td ty):=by
 intro pins s σ H Q I h
 refine zjV PySem.F.slot_dict_getitem.lookup hs (thn (ho pins s σ H _ I h) fun u s1 ⟨x,H1,I1,rx,q1⟩=>thn (hi pins s1 σ H1 _ I1 q1) fun iv s2 hq25=>?_)
 obtain⟨y,H2,I2,ry,a,v,ex,g,q2⟩:=hq25
 subst ex
 obtain rfl:u=Value.ref a:=rx
 exact⟨zdU I2 g,zf5 hu I2 g ry fun w' s3 I3 rw'=>⟨v,H2,I3,rw',q2⟩⟩
theorem zfL (hu:X.A.units+1<cLine)(hi:PE X i ty)(ho:PE X o td):PC X .NotIn i o (zjy ty td):=by
 intro pins s σ H Q I h
 refine thn (hi pins s σ H _ I h) fun iv s1 ⟨y,H1,I1,ry,q1⟩=>thn (ho pins s1 σ H1 _ I1 q1) fun u s2 hq26=>?_
 obtain⟨x,H2,I2,rx,a,ov,ex,g,q2⟩:=hq26
 subst ex
 obtain rfl:u=Value.ref a:=rx
 exact zjJ hu I2 g ry fun s3 I3=>⟨.bl (!ov.isSome),H2,I3,rfl,q2⟩
end
end L2
namespace Att
open PySem PySem.W PySem.Calls PyProof.Rows
theorem zbb {P:Params}{h:Heap}:∀(ns:List Int) (vs:List Value),WellAll P h vs (ns.map WData.int)→IntsAre vs ns:=by
 intro ns
 induction ns with
 | nil =>
  intro vs w
  rw[List.map_nil] at w
  cases w
  exact .nil
 | cons n ns ih =>
  intro vs w
  rw[List.map_cons] at w
  cases w with
  | cons a b =>
   cases a
   exact .cons _ _ (ih _ b)
theorem zg6 {l:OpenLaw}{n:Nat}(hn:l.most=some n){P:Params}{h:Heap}{args:List WData}{vals:List Value}
  (hpre:l.row.toRowW.claim.pre args=true) (hwl:WellAll P h vals args) :
  ∃a vs ns,vals=[Value.ref a]∧args=[WData.list (ns.map WData.int)]∧h.get? a=some {cls:=.type "list", data:=.seq vs.toArray}∧IntsAre vs ns∧ns.length≤n:=by
 have hsh:WShape.hasAll [] args [.list .int]=true:=(pre_splitW hpre).1
 have hc:l.pre.holds [] {args:=args}=true:=(pre_splitW hpre).2
 obtain⟨d,r,rfl,h1,h2⟩:=hasAllW_cons hsh
 obtain rfl:=hasAllW_nil h2
 obtain⟨xs,rfl,h3⟩:=hasW_list h1
 obtain⟨ns,rfl⟩:=items_int h3
 have hlen:ns.length≤n:=by
  unfold OpenLaw.pre at hc
  have h4:(WTm.not (.lt (.lit (.int (n:Int))) (.len (.arg 0)))).holds [] {args:=[.list (ns.map .int)]}=true:=by
   have h4:=(holds_andW hc).1
   rw[hn] at h4
   exact h4
  have h5:=condW_of h4 (w_not (w_lt w_lit (w_len_list (w_arg rfl))))
  rw[List.length_map] at h5
  refine Nat.le_of_not_lt fun q=>?_
  have q':(n:Int)<((ns.length:Nat):Int):=by omega
  first
   | (rw[decide_eq_true q'] at h5;exact absurd h5 (by decide))
   | (simp at h5;omega)
 cases hwl with
 | cons w1 w2 =>
  cases w2
  cases w1 with
  | list ho hall=>exact⟨_,_,ns,rfl,rfl,ho,zbb ns _ hall,hlen⟩
theorem zgj (l:OpenLaw)(args:List WData):l.row.toRowW.claim.post args (.bool true) args=true :=
 postW_of (r:=l.row.toRowW) (X:=(true == true))
  (show WShape.has [] (.bool true) .bool=true by first|rfl|decide|simp[WShape.has,WShape.arms,WShape.armsAll])
  (show(WTm.eq .res (.lit (.bool true))).value [] {args:=args,res:=some (.bool true),after:=args}=some (.bool (true == true)) from w_eq_bool (w_res rfl) w_lit) rfl
theorem attach_call {l:OpenLaw}{n:Nat}{q:Program}{loose:List Str}{XP:(Str→Option Value)→Heap→Prop}{YP:World→Heap→Prop}{d:DefRec}
  (hn:l.most=some n) (hdf:d.params.defaults=[])
  (call:∀(w:World) (s₀ s₁:Shared) (mg mb:Str→Option Value) (fa:Addr) (o:Obj) (pm cd doc:Value) (a:Addr) (vs:List Value) (ns:List Int),
   Ground q loose [] XP w s₀ mg mb s₁.heap→YP w s₁.heap →
   s₁.heap.get? fa=some o→o.data=.func (docDef d.name d.params d.body d.scope pm cd doc)→s₁.heap.CodeRec cd d.name→mg d.name=some (.ref fa) →
   s₁.heap.get? a=some {cls:=.type "list", data:=.seq vs.toArray}→IntsAre vs ns→ns.length≤n→s₁.gens = #[] →
   codeAny (model l.prog w) callerA (.call (.ref fa) ⟨[.ref a],[]⟩) (fun r s'=>r=.ok (.ret (.bool true))∧OldK s₁.heap s'.heap∧s'.os=s₁.os∧AllBare s'.gens) s₁) :
  WalkO q loose XP YP l.row.toRowW d [] (fun f vs=>PySem.call f vs):=by
 intro w s₀ s₁ mg mb G Y fa o pm cd doc dV kV ho hd hcd hD hmg hg args vals as hpre hlay hrd hwl hlo
 obtain rfl:dV=.none:=Dflts.none hD hdf
 obtain rfl:kV=.none:=Dflts.noKw hD
 obtain⟨a,vs,ns,rfl,rfl,hobj,hints,hlen⟩:=zg6 hn hpre hwl
 refine enter_call (codeAny_mono (call w s₀ s₁ mg mb fa o pm cd doc a vs ns G Y ho (fd_plain hd) hcd hmg hobj hints hlen hg) fun r s' hq=>?_)
 obtain⟨rfl,h2,h3,h4⟩:=hq
 exact⟨.inl ⟨.bool true,.bool true,[],rfl,fun _=>rfl,.bool true,zgj l _,fun _=>⟨List.Pairwise.nil,fun _ hm=>(nomatch hm)⟩⟩,h2,h3,h4⟩
section
variable {prog:Program}{w:World}{A:Around}{E:Value→Shared→Prop}{s:Shared}{K:Frag}
end
end Att
namespace L2
open PySem PySem.Spec PyProof.Rows
theorem zc8:∀{vs:List Value}{ns:List Int},IntsAre vs ns→Vals (ns.map V.int) vs
 | _,_,.nil=>.nil
 | _,_,.cons n t h=>.cons ⟨t,rfl⟩ (zc8 h)
def Only (H:Hp):Prop:=∀b,H b=none∨∃o xs,H b=some (.frz o (.lst xs))
theorem zin {P:Program}{w:World}{K:PySem.W.Frag}{mg mb:Str→Option Value}{CX:CXT}{k:Nat}{fa a:Addr}{fd:FuncData}{x:Str}{sp:Sp}{s₁:Shared}{vs:List Value}{ns:List Int}
  (KX:K.In s₁.heap) (hns:s₁.heap.Ns mainGlobals mg) (hb:s₁.heap.Ns builtinsNs mb) (hbb:∀x:Str,x ≠ "__name__" → mb x=bootBuiltins x) (hlim:s₁.heap.NoLimit) (hg:s₁.gens = #[])
  (ha:s₁.heap.get? a=some {cls:=.type "list", data:=.seq vs.toArray}) (hi:IntsAre vs ns) (hl:ns.length≤sizeLine) (hr:Room k callerA)
  (F:∀base:Heap,K.In base→base.Ns mainGlobals mg→FnOk P w K mg base CX k fa fd [x] sp) (hbind:∀(s:Shared) (u:Value),BindsTo s fd ⟨[u],[]⟩ [(x,u)])
  (hsp:∀H:Hp,Only H→SqL K H a (ns.map V.int)→sp [.ref a] H (fun v _=>v=.bl true) fun _ _ _=>False)
  (hCX:∀H e s',CX [] H s₁ (fun _ _ _=>False) e s'→False) :
  codeAny (model P w) callerA (.call (.ref fa) ⟨[.ref a],[]⟩) (fun r s'=>r=.ok (.ret (.bool true))∧OldK s₁.heap s'.heap∧s'.os=s₁.os∧AllBare s'.gens) s₁:=by
 have rv:=zc8 hi
 have lenV:=hi.length
 have core:∀H:Hp,Only H→SqL K H a (ns.map V.int)→HOk P w H s₁.heap→(∀b,H b≠none→b=a)→(H a≠none→K.lookup a=none) →
   codeAny (model P w) callerA (.call (.ref fa) ⟨[.ref a],[]⟩) (fun r s'=>r=.ok (.ret (.bool true))∧OldK s₁.heap s'.heap∧s'.os=s₁.os∧AllBare s'.gens) s₁:=by
  intro H hO hS hok hA hK
  have base_of:∀{b:Addr}{o:Obj},s₁.heap.get? b=some o→H b=none→(zii s₁.heap H).get? b=some o:=fun e n=>zhW e n
  have noA:∀{b:Addr}{o:Obj}{es:Array DictEntry}{ep:Nat},s₁.heap.get? b=some o→o.data=.dict es ep→H b=none:=fun {b o es ep} e d=>by
   cases q:H b with
   | none=>rfl
   | some u =>
    have e':b=a:=hA b (by rw[q];simp)
    subst e'
    rw[ha] at e;cases e
    have d':Data.seq vs.toArray _=Data.dict es ep:=d
    cases d'
  have nsK:∀{b:Addr}{m:Str→Option Value},s₁.heap.Ns b m→(zii s₁.heap H).Ns b m:=fun {b m} ⟨o,es,ep,e,d,r⟩=>⟨o,es,ep,base_of e (noA e d),d,r⟩
  have hKb:K.In (zii s₁.heap H):=fun b o e=>base_of (KX b o e) (by
   cases q:H b with
   | none=>rfl
   | some u =>
    have e':b=a:=hA b (by rw[q];simp)
    subst e'
    rw[hK (by rw[q];simp)] at e;cases e)
  have hM:Mod K mg (zii s₁.heap H):=⟨hKb,nsK hns,⟨mb,nsK hb,hbb⟩,let ⟨mc,h1,h2⟩:=hlim;⟨mc,nsK h1,h2⟩⟩
  have e0:Env0 P w K mg (zii s₁.heap H) callerA [] s₁ H:=⟨rfl,hM,fun b o e=>zj8 e,Nat.le_of_eq (zg4 _ _),trivial,fun b hb=>absurd (show b∈([]:List Addr) from hb) (by simp),hok,.of_eq hg⟩
  refine codeAny_mono ((F _ hKb (nsK hns)).run callerA [] s₁ H ⟨[.ref a],[]⟩ [.ref a] [.ref a] _ _ hr e0 (hbind s₁ (.ref a)) (.cons rfl .nil) (hsp H hO hS)) fun r s' h=>?_
  cases r with
  | error e=>exact(hCX H e s' h).elim
  | ok fl =>
   cases fl with
   | next=>exact False.elim h
   | brk=>exact False.elim h
   | cont=>exact False.elim h
   | ret u =>
    obtain⟨v,H',os,bare,un,hok',r',q⟩:=h
    have q':v=.bl true:=q
    subst q'
    obtain rfl:u=Value.bool true:=r'
    refine⟨rfl,OldK.of_keep fun b o e=>?_,os,bare⟩
    cases q:H b with
    | none=>exact un.keep b o e q (by intro z;exact absurd (show b∈([]:List Addr) from z) (by simp)) (by simp)
    | some u =>
     rcases hO b with z|⟨ob,xs,z⟩
     ·rw[q] at z;cases z
     ·have z2:=un.frzs b ob _ z
      obtain⟨e1,_⟩:=hok b _ z
      obtain⟨e2,_⟩:=hok' b _ z2
      rw[e] at e1;cases e1
      exact e2
 cases hk:K.lookup a with
 | some o =>
  have e:=KX a o hk
  rw[ha] at e
  cases e
  refine core (fun _=>none) (fun _=>.inl rfl) (.inr ⟨_,vs.toArray,_,hk,rfl,rfl,rfl,by rw[List.size_toArray,lenV];exact hl,by simpa using rv⟩) (fun b u z=>by have z':(none:Option HO)=some u:=z;cases z') (fun b z=>absurd rfl z) fun z=>absurd rfl z
 | none =>
  refine core (fun b=>if b=a then some (.frz {cls:=.type "list", data:=.seq vs.toArray} (.lst (ns.map V.int))) else none) (fun b=>?_) (.inl (.inr ⟨{cls:=.type "list", data:=.seq vs.toArray},if_pos rfl⟩)) (fun b u z=>?_) (fun b z=>?_) fun _=>hk
  ·by_cases hb:b=a
   ·exact .inr ⟨_,_,if_pos hb⟩
   ·exact .inl (if_neg hb)
  ·by_cases hb:b=a
   ·have z':=(if_pos hb).symm.trans z
    cases z'
    subst hb
    exact⟨ha,by rw[List.length_map];exact hl,vs,_,rv,ha⟩
   ·have z':=(if_neg hb).symm.trans z
    cases z'
  ·by_cases hb:b=a
   ·exact hb
   ·exact absurd (if_neg hb) z
end L2
namespace L2
open PySem PySem.Spec PyProof.Rows
theorem walk_of {l:PySem.W.OpenLaw}{n k:Nat}{q:Program}{loose:List Str}{XP:(Str→Option Value)→Heap→Prop}{YP:World→Heap→Prop}{d:DefRec}{K:Params→PySem.W.Frag}{CX:World→CXT}{sp:World→Sp}{x:Str}
  (hn:l.most=some n) (hn2:n≤sizeLine) (hdf:d.params.defaults=[]) (hr:Room k callerA)
  (hY:∀(w:World) (h:Heap),YP w h→(K w.params).In h)
  (F : ∀(w:World) (mg:Str→Option Value) (fa:Addr) (h:Heap),(K w.params).In h→h.Ns mainGlobals mg→mg d.name=some (.ref fa) →
   ∃ fd:FuncData,(∀(s:Shared) (u:Value),BindsTo s fd ⟨[u],[]⟩ [(x,u)]) ∧
    ∀base:Heap,(K w.params).In base→base.Ns mainGlobals mg→FnOk l.prog w (K w.params) mg base (CX w) k fa fd [x] (sp w))
  (hsp:∀(w:World) (H:Hp) (a:Addr) (ns:List Int),ns.length≤n→Only H→SqL (K w.params) H a (ns.map V.int)→sp w [.ref a] H (fun v _=>v=.bl true) fun _ _ _=>False)
  (hCX:∀(w:World) (H:Hp) (s:Shared) (e:Value) (s':Shared),CX w [] H s (fun _ _ _=>False) e s'→False) :
  PySem.W.WalkO q loose XP YP l.row.toRowW d [] (fun f vs=>PySem.call f vs):=by
 refine Att.attach_call hn hdf fun w s₀ s₁ mg mb fa o pm cd doc a vs ns G Y ho hd hcd hmg hobj hints hlen hg=>?_
 have KX:=hY w _ Y
 obtain⟨fd,hb,hF⟩:=F w mg fa _ KX G.T.g hmg
 exact zin KX G.T.g G.T.b G.T.builtins G.T.nolimit hg hobj hints (Nat.le_trans hlen hn2) hr hF hb (fun H hO hS=>hsp w H a ns hlen hO hS) fun H e s'=>hCX w H s₁ e s'
end L2
namespace L2
open PySem PySem.Spec PyProof.Rows
def zM (s:Stmt):Arguments:=match s with
 | .FunctionDef _ a _ _ _ _ _ _ _ _=>a
 | _=>{posonlyargs:=[],args:=[],vararg:=none,kwonlyargs:=[],kw_defaults:=[],kwarg:=none,defaults:=[]}
def zG (s:Stmt):List Stmt:=match s with
 | .FunctionDef _ _ b _ _ _ _ _ _ _=>b
 | _=>[]
def zj (s:Stmt):Scope:=match s with
 | .FunctionDef _ _ _ _ _ _ sc _ _ _=>sc
 | _=>{kind:=.function,names:=[],isGenerator:=false,isCoroutine:=false}
abbrev CX0:CXT:=fun _ _ _ _ _ _=>False
abbrev E0:XK:=fun _ _ _=>False
structure Fun (K:PySem.W.Frag)(x qual:Str)(st:Stmt)(f:Addr)(fd:FuncData):Prop where
 ex:∃(oc:Value) (od:Option Addr) (kV doc pm:Value) (an:Option Addr) (cdv ct:Value) (osl:Array (Option Value)),
  fd=PySem.W.fnOf x qual (zM st) (zG st) (zj st) .none kV doc pm an cdv ct∧K.lookup f=some ⟨oc,od,.func fd,osl⟩∧PySem.W.codeIn K cdv qual=true
 kp:PySem.W.keepIn K (.ref f)=true
section
variable {P:Program}{w:World}{K:PySem.W.Frag}{mg:Str→Option Value}{base:Heap}
theorem Fun.ok {x qual:Str}{st:Stmt}{f:Addr}{fd:FuncData}{N ps:List Str}{k:Nat}{sp:Sp}(F:Fun K x qual st f fd)(S:FnScope N ps (zj st))(len:∀vs H Q E,sp vs H Q E→vs.length=ps.length)
  (hbody:∀(cdv:Value) (A:Around) (outer:List Env) (s:Shared) (H:Hp) (vs:List V) (Q:VK) (E:XK),Room k (A.deeper (envOfC qual (zj st) s.heap.objs.size f cdv))→sp vs H Q E →
   ∃t,PSs (zas CX0 P w K mg base N qual (zj st) f cdv A outer s H E).nox (zG st) t∧t {nx:=fun _ H'=>Q .non H',rt:=Q} (start N vs) H):FnOk P w K mg base CX0 (k+1) f fd ps sp:=by
 obtain⟨oc,od,kV,doc,pm,an,cdv,ct,osl,rfl,lk,hcd⟩:=F.ex
 refine zlq lk hcd S len fun A outer s H vs Q E hr hsp=>?_
 obtain⟨t,h,q⟩:=hbody cdv A outer s H vs Q E hr hsp
 exact⟨t,h.nox,q⟩
theorem Fun.binds {x qual:Str}{st:Stmt}{f:Addr}{fd:FuncData}{ps:List Str}(F:Fun K x qual st f fd)
  (h:∀(kV doc pm:Value) (an:Option Addr) (cdv ct:Value) (us:List Value),us.length=ps.length→bindArgs (PySem.W.fnOf x qual (zM st) (zG st) (zj st) .none kV doc pm an cdv ct) ⟨us,[]⟩=pure (ps.zip us)):Binds K fd ps []:=by
 obtain⟨oc,od,kV,doc,pm,an,cdv,ct,osl,rfl,lk,hcd⟩:=F.ex
 exact .all (h kV doc pm an cdv ct)
theorem yh {x qual:Str}{st:Stmt}{f:Addr}{oc:Value}{od an:Option Addr}{osl:Array (Option Value)}{kV doc pm cdv ct:Value}(l:K.lookup f=some ⟨oc,od,.func (PySem.W.fnOf x qual (zM st) (zG st) (zj st) .none kV doc pm an cdv ct),osl⟩)
  (c:PySem.W.codeIn K cdv qual=true) (k:PySem.W.keepIn K (.ref f)=true):Fun K x qual st f (PySem.W.fnOf x qual (zM st) (zG st) (zj st) .none kV doc pm an cdv ct):=⟨⟨oc,od,kV,doc,pm,an,cdv,ct,osl,rfl,l,c⟩,k⟩
end
theorem zln {A:Around}{k:Nat}(hr:Room k A):A.units+1<cLine:=Nat.lt_of_le_of_lt (Nat.add_le_add_left (by decide:1≤64) _) hr.units
section
variable {X:Cx}
theorem pv (i:Nat){x:Str}{pos:Pos}(hN:X.N[i]? = some x:=by rfl)(hv:Vis X.env.scope x:=by first|exact Or.inl rfl|exact Or.inr (Or.inl rfl)|exact Or.inr (Or.inr rfl))(hd:(x == ("__debug__" : Str))=false:=by decide)
  (hcd:(x == ("__classdict__" : Str))=false:=by decide):PE X (.Name x pos) (zlU i):=zkZ hN hv hd hcd
end
def Same (H H':Hp):Prop:=∀b o,H b=some o→H' b=some o
theorem Same.refl (H:Hp):Same H H:=fun _ _ h=>h
theorem Same.trans {H H1 H2:Hp}(a:Same H H1)(b:Same H1 H2):Same H H2:=fun c o h=>b c o (a c o h)
theorem Same.free {H H':Hp}(e:Same H H'){l:Addr}(h:H' l=Option.none):H l=Option.none:=by
 cases q:H l with
 | none=>rfl
 | some o =>
  rw[e l o q] at h
  cases h
theorem Same.seq {K:PySem.W.Frag}{H H':Hp}{a:Addr}{xs:List V}(e:Same H H')(h:SqL K H a xs):SqL K H' a xs:=by
 rcases h with(h|⟨o,h⟩)|h
 ·exact .inl (.inl (e _ _ h))
 ·exact .inl (.inr ⟨o,e _ _ h⟩)
 ·exact .inr h
end L2
namespace My
def low (u d:Int):Int×Int:=(u / (Int.gcd u d:Int),d / (Int.gcd u d:Int))
end My
namespace Zp
open PySem
section
variable {prog:Program}{w:World}{A:Around}{E:Value→Shared→Prop}{s:Shared}
theorem jV {it t:Addr}{i:Nat}{items}{x:Value}{Q:Value→Shared→Prop}(hit:s.heap.IsTupleIter it t i)
  (ht:s.heap.IsTuple t items) (hx:items[i]? = some x)
  (hQ:∀h',h'.IsTupleIter it t (i+1)→Heap.SameBut it s.heap h'→Q x {s with heap:=h'}) :
  wpAny (model prog w) A (Builtin.SmallTypes.nextOf (.ref it)) Q E s:=by
 obtain⟨o,ho,hc,hd⟩:=id hit
 obtain⟨ol,hol,_,nl,hdl⟩:=ht
 unfold Builtin.SmallTypes.nextOf
 refine wpAny_bind (wpAny_callSpecial?_slot (name:=Str.ofString "__next__") hit.typeIs F.slot_tuple_iterator_next
  (wpAny_call_entry F.slot_tuple_iterator_next hit.typeIs F.entry_tuple_iterator_next ?_ (F.args_tuple_iterator_next_1 _)))
 show wpAny _ _ (field (.ref it) 0 >>= _) _ _ s
 refine wpAny_bind (wpAny_field ho hd (x:=.ref t) rfl ?_)
 show wpAny _ _ (if (Value.ref t == Value.none)=true then _ else _) _ _ s
 rw[if_neg (show ¬((Value.ref t == Value.none)=true) from Bool.false_ne_true)]
 show wpAny _ _ (field (.ref it) 1 >>= _) _ _ s
 refine wpAny_bind (wpAny_field ho hd (x:=.int i 0) rfl ?_)
 show wpAny _ _ (seqItems? (.ref t) >>= _) _ _ s
 refine wpAny_bind (wpAny_seqItems hol hdl ?_)
 simp only[Int.toNat_natCast,hx]
 refine wpAny_bind (wpAny_setField ho hd (by simp) (wpAny_pure ⟨x,rfl,wpAny_pure (hQ _ ?_ (Heap.SameBut.update ..))⟩))
 exact ⟨_,Heap.get?_update_self _ ho (Obj.isFreed_of_fields (Obj.data_mapFields hd _)),(Obj.cls_mapFields ..).trans hc,by
  rw[Obj.data_mapFields hd];simp[rawInt]⟩
theorem zaB {it t:Addr}{i:Nat}{items}{Q:Value→Shared→Prop}(hh:A.handled=none)
  (hit:s.heap.IsTupleIter it t i) (ht:s.heap.IsTuple t items) (hx:items[i]? = none)
  (hE:∀h' e,Heap.ExtBut it s.heap h'→(∃o,h'.get? e=some o∧o.cls=.type "StopIteration")→E (.ref e) {s with heap:=h'}) :
  wpAny (model prog w) A (Builtin.SmallTypes.nextOf (.ref it)) Q E s:=by
 obtain⟨o,ho,hc,hd⟩:=id hit
 obtain⟨ol,hol,_,nl,hdl⟩:=ht
 unfold Builtin.SmallTypes.nextOf
 refine wpAny_bind (wpAny_callSpecial?_slot (name:=Str.ofString "__next__") hit.typeIs F.slot_tuple_iterator_next
  (wpAny_call_entry F.slot_tuple_iterator_next hit.typeIs F.entry_tuple_iterator_next ?_ (F.args_tuple_iterator_next_1 _)))
 show wpAny _ _ (field (.ref it) 0 >>= _) _ _ s
 refine wpAny_bind (wpAny_field ho hd (x:=.ref t) rfl ?_)
 show wpAny _ _ (if (Value.ref t == Value.none)=true then _ else _) _ _ s
 rw[if_neg (show ¬((Value.ref t == Value.none)=true) from Bool.false_ne_true)]
 show wpAny _ _ (field (.ref it) 1 >>= _) _ _ s
 refine wpAny_bind (wpAny_field ho hd (x:=.int i 0) rfl ?_)
 show wpAny _ _ (seqItems? (.ref t) >>= _) _ _ s
 refine wpAny_bind (wpAny_seqItems hol hdl ?_)
 simp only[Int.toNat_natCast,hx]
 refine wpAny_bind (wpAny_rule (wpAny_bind (wpAny_setField ho hd (by simp) ?_)))
 show wpAny _ _ (newExc (.type "StopIteration") [] >>= _) _ _ _
 refine wpAny_bind ?_
 simp only[newExc,newTuple]
 refine wpAny_bind (wpAny_newObj_type ?_ (by size_fits))
 refine wpAny_bind (m:=firstArgMember _ _) (wpAny_of_eq (a:=Value.none) (by first|rfl|(simp only[firstArgMember];rfl)) ?_)
 refine wpAny_newObj_type ?_ (by size_fits)
 simp only[raiseNew]
 refine wpAny_bind (wpAny_handled ?_)
 first|rw[show A.in1.handled=none from hh] | rw[hh]
 refine wpAny_bind (wpAny_pure (wpAny_throw ?_))
 exact hE _ _ (((Heap.SameBut.update ..).extBut.push _).push _) ⟨_,Heap.get?_push_size _ rfl,rfl⟩
theorem zae {it:Addr}{x:Str}{t:Tok}{i c:Nat}{Q:Value→Shared→Prop}(hit:s.heap.IsStrIter it "str_ascii_iterator" x t i)(hx:x.cps[i]? = some c)
  (hQ:∀h',h'.IsStrIter it "str_ascii_iterator" x t (i+1)→Heap.SameBut it s.heap h'→Q (.str ⟨#[c]⟩ s.toks) {s with heap:=h',toks:=s.toks+1}) :
  wpAny (model prog w) A (Builtin.SmallTypes.nextOf (.ref it)) Q E s:=by
 obtain⟨o,ho,hc,hd⟩:=id hit
 unfold Builtin.SmallTypes.nextOf
 refine wpAny_bind (wpAny_callSpecial?_slot (name:=Str.ofString "__next__") hit.typeIs F.slot_str_ascii_iterator_next
  (wpAny_call_entry F.slot_str_ascii_iterator_next hit.typeIs F.entry_str_ascii_iterator_next ?_ (F.args_str_ascii_iterator_next_1 _)))
 show wpAny _ _ (field (.ref it) 0 >>= _) _ _ s
 refine wpAny_bind (wpAny_field ho hd (x:=.str x t) rfl ?_)
 show wpAny _ _ (field (.ref it) 1 >>= _) _ _ s
 refine wpAny_bind (wpAny_field ho hd (x:=.int i 0) rfl ?_)
 simp only[Int.toNat_natCast,hx]
 refine wpAny_bind (wpAny_setField ho hd (by simp) (wpAny_bind (wpAny_mkStr (wpAny_pure ⟨_,rfl,wpAny_pure (hQ _ ?_ (Heap.SameBut.update ..))⟩) (by show 1≤sizeLine;decide))))
 exact ⟨_,Heap.get?_update_self _ ho (Obj.isFreed_of_fields (Obj.data_mapFields hd _)),(Obj.cls_mapFields ..).trans hc,by
  rw[Obj.data_mapFields hd];simp[rawInt]⟩
theorem zaz {it:Addr}{x:Str}{t:Tok}{i:Nat}{Q:Value→Shared→Prop}(hh:A.handled=none)
  (hit:s.heap.IsStrIter it "str_ascii_iterator" x t i) (hx:x.cps[i]? = none)
  (hE:∀h' e,Heap.ExtBut it s.heap h'→(∃o,h'.get? e=some o∧o.cls=.type "StopIteration")→E (.ref e) {s with heap:=h'}) :
  wpAny (model prog w) A (Builtin.SmallTypes.nextOf (.ref it)) Q E s:=by
 obtain⟨o,ho,hc,hd⟩:=id hit
 unfold Builtin.SmallTypes.nextOf
 refine wpAny_bind (wpAny_callSpecial?_slot (name:=Str.ofString "__next__") hit.typeIs F.slot_str_ascii_iterator_next
  (wpAny_call_entry F.slot_str_ascii_iterator_next hit.typeIs F.entry_str_ascii_iterator_next ?_ (F.args_str_ascii_iterator_next_1 _)))
 show wpAny _ _ (field (.ref it) 0 >>= _) _ _ s
 refine wpAny_bind (wpAny_field ho hd (x:=.str x t) rfl ?_)
 show wpAny _ _ (field (.ref it) 1 >>= _) _ _ s
 refine wpAny_bind (wpAny_field ho hd (x:=.int i 0) rfl ?_)
 simp only[Int.toNat_natCast,hx]
 refine wpAny_bind (wpAny_rule (wpAny_bind (wpAny_setField ho hd (by simp) (wpAny_bind (wpAny_letGo ?_)))))
 show wpAny _ _ (newExc (.type "StopIteration") [] >>= _) _ _ _
 refine wpAny_bind ?_
 simp only[newExc,newTuple]
 refine wpAny_bind (wpAny_newObj_type ?_ (by size_fits))
 refine wpAny_bind (m:=firstArgMember _ _) (wpAny_of_eq (a:=Value.none) (by first|rfl|(simp only[firstArgMember];rfl)) ?_)
 refine wpAny_newObj_type ?_ (by size_fits)
 simp only[raiseNew]
 refine wpAny_bind (wpAny_handled ?_)
 first|rw[show A.in1.handled=none from hh] | rw[hh]
 refine wpAny_bind (wpAny_pure (wpAny_throw ?_))
 exact hE _ _ (((Heap.SameBut.update ..).extBut.push _).push _) ⟨_,Heap.get?_push_size _ rfl,rfl⟩
end
abbrev IsZipF (h:Heap)(z TI TO:Addr)(f0 f1:Value):Prop :=
 h.get? z=some {cls:=.type "zip", dict:=none,data:=.fields #[f0,f1,.bool false,.ref TI,.ref TO],slots:=#[]}
structure Apart (z TI TO i1 i2:Addr):Prop where
 TIz:TI≠z
 TOz:TO≠z
 i1z:i1≠z
 i2z:i2≠z
 TITO:TI≠TO
 TIi1:TI≠i1
 TIi2:TI≠i2
 TOi1:TO≠i1
 TOi2:TO≠i2
 i12:i1≠i2
def Yields (prog:Program)(w:World)(A:Around)(it:Addr)(G:Heap→Prop)(P:Value→Prop)(S:Heap→Prop):Prop :=
 ∀ (s:Shared) (Q:Value→Shared→Prop) (E:Value→Shared→Prop),G s.heap→(∀x h' tk,P x→S h'→Heap.SameBut it s.heap h'→Q x {s with heap:=h',toks:=tk}) →
  wpAny (model prog w) A (Builtin.SmallTypes.nextOf (.ref it)) Q E s
def Ends (prog:Program)(w:World)(A:Around)(it:Addr)(G:Heap→Prop):Prop :=
 ∀ (s:Shared) (Q:Value→Shared→Prop) (E:Value→Shared→Prop),G s.heap→(∀h' e,Heap.ExtBut it s.heap h'→(∃o,h'.get? e=some o∧o.cls=.type "StopIteration")→E (.ref e) {s with heap:=h'}) →
  wpAny (model prog w) A (Builtin.SmallTypes.nextOf (.ref it)) Q E s
section
variable {prog:Program}{w:World}{A:Around}{E:Value→Shared→Prop}{s:Shared}
theorem next_item {z TI TO i1 i2:Addr}{a b f1:Value}{P1 P2:Value→Prop}{G1 G2 S1 S2:Heap→Prop}{Q:Value→Shared→Prop}(D:Apart z TI TO i1 i2)
  (hz:IsZipF s.heap z TI TO .none f1) (hTI:IsPair s.heap TI (.ref i1) (.ref i2)) (hTO:IsPair s.heap TO a b)
  (Y1:Yields prog w A i1 G1 P1 S1) (Y2:Yields prog w A i2 G2 P2 S2)
  (g1:∀h',(∀c o,c≠z→s.heap.get? c=some o→h'.get? c=some o)→G1 h') (g2:∀h',(∀c o,c≠z→c≠TO→c≠i1→s.heap.get? c=some o→h'.get? c=some o)→G2 h')
  (k1:∀h h',S1 h→(∀c o,c≠z→c≠TO→c≠i2→h.get? c=some o→h'.get? c=some o)→S1 h')
  (k2:∀h h',S2 h→(∀c o,c≠z→c≠TO→h.get? c=some o→h'.get? c=some o)→S2 h')
  (hQ:∀x y h' tk,P1 x→P2 y→IsZipF h' z TI TO (rawInt s.heap.objs.size) (.bool false)→IsPair h' TO x y→S1 h'→S2 h'→IsPair h' s.heap.objs.size x y→h'.objs.size=s.heap.objs.size+1 →
   (∀c o,c≠z→c≠TO→c≠i1→c≠i2→s.heap.get? c=some o→h'.get? c=some o)→Q (.ref s.heap.objs.size) {s with heap:=h',toks:=tk}) :
  wpAny (model prog w) A (Builtin.«zip.__next__» ⟨[.ref z],[]⟩) (fun fin s'=>∃v,fin=.done (.ret v)∧Q v s') E s:=by
 show wpAny _ _ (field (.ref z) 2 >>= _) _ _ _
 refine wpAny_bind (wpAny_field hz rfl (x:=.bool false) rfl ?_)
 show wpAny _ _ (field (.ref z) 3 >>= _) _ _ _
 refine wpAny_bind (wpAny_field hz rfl (x:=.ref TI) rfl ?_)
 refine wpAny_bind (wpAny_seqItems hTI rfl ?_)
 show wpAny _ _ (Builtin.SmallTypes.ownedTupleIsFree (.ref z) >>= _) _ _ _
 refine wpAny_bind ?_
 unfold Builtin.SmallTypes.ownedTupleIsFree
 refine wpAny_bind (wpAny_field hz rfl (x:=.none) rfl (wpAny_pure ?_))
 simp only[if_true]
 refine wpAny_bind (wpAny_rule ?_)
 refine wpAny_bind (wpAny_field hz rfl (x:=.ref TO) rfl ?_)
 refine wpAny_bind (wpAny_setField_rec hz (by simp) fun h₁ hz₁ hs₁=>?_)
 replace hz₁:IsZipF h₁ z TI TO .ellipsis f1:=hz₁
 refine wpAny_bind ?_
 simp only[List.zipIdx_cons,List.zipIdx_nil,List.forIn_cons,List.forIn_nil]
 refine wpAny_bind (wpAny_bind (wpAny_onRaise ?_))
 show wpAny _ _ (Builtin.SmallTypes.nextOf (.ref i1) >>= _) _ _ _
 refine wpAny_bind (Y1 _ _ _ (g1 _ fun c o hc e=>hs₁.extBut _ _ hc e) fun x h₂ tk₂ px st1 hs₂=>wpAny_pure ?_)
 have hTO₂:IsPair h₂ TO a b:=hs₂.extBut _ _ D.TOi1 (hs₁.extBut _ _ D.TOz hTO)
 refine wpAny_bind (wpAny_seqItems hTO₂ rfl ?_)
 refine wpAny_bind (wpAny_updateSeq_pair hTO₂ fun h₃ hTO₃ hs₃=>?_)
 replace hTO₃:IsPair h₃ TO x b:=hTO₃
 refine wpAny_bind (wpAny_letGo (wpAny_pure ?_))
 refine wpAny_bind (wpAny_bind (wpAny_onRaise ?_))
 show wpAny _ _ (Builtin.SmallTypes.nextOf (.ref i2) >>= _) _ _ _
 refine wpAny_bind (Y2 _ _ _ (g2 _ fun c o c1 c2 c3 e=>hs₃.extBut _ _ c2 (hs₂.extBut _ _ c3 (hs₁.extBut _ _ c1 e))) fun y h₄ tk₄ py st2 hs₄=>wpAny_pure ?_)
 have hTO₄:IsPair h₄ TO x b:=hs₄.extBut _ _ D.TOi2 hTO₃
 refine wpAny_bind (wpAny_seqItems hTO₄ rfl ?_)
 refine wpAny_bind (wpAny_updateSeq_pair hTO₄ fun h₅ hTO₅ hs₅=>?_)
 replace hTO₅:IsPair h₅ TO x y:=hTO₅
 refine wpAny_bind (wpAny_letGo (wpAny_pure (wpAny_pure ?_)))
 refine wpAny_bind (wpAny_seqItems hTO₅ rfl ?_)
 refine wpAny_bind (wpAny_newTuple ?_)
 have hsz:h₅.objs.size=s.heap.objs.size:=by rw[hs₅.1,hs₄.1,hs₃.1,hs₂.1,hs₁.1]
 have hz₅:IsZipF h₅ z TI TO .ellipsis f1:=hs₅.extBut _ _ D.TOz.symm (hs₄.extBut _ _ D.i2z.symm (hs₃.extBut _ _ D.TOz.symm (hs₂.extBut _ _ D.i1z.symm hz₁)))
 have hk₅:∀c o,c≠z→c≠TO→c≠i1→c≠i2→s.heap.get? c=some o→h₅.get? c=some o:=fun c o c1 c2 c3 c4 e =>
  hs₅.extBut _ _ c2 (hs₄.extBut _ _ c4 (hs₃.extBut _ _ c2 (hs₂.extBut _ _ c3 (hs₁.extBut _ _ c1 e))))
 have hzlt:z<h₅.objs.size:=Heap.lt_size hz₅
 show wpAny _ _ (Builtin.SmallTypes.ownedTupleHandOut (.ref z) (.ref h₅.objs.size) >>= _) _ _ _
 refine wpAny_bind ?_
 unfold Builtin.SmallTypes.ownedTupleHandOut
 have hz₆:IsZipF (h₅.push {cls:=.type "tuple", data:=.seq #[x,y]}) z TI TO .ellipsis f1:=Heap.get?_push_of_some _ hz₅
 refine wpAny_bind (wpAny_setField_rec hz₆ (by simp) fun h₇ hz₇ hs₇=>?_)
 replace hz₇:IsZipF h₇ z TI TO (rawInt h₅.objs.size) f1:=hz₇
 refine wpAny_setField_rec hz₇ (by simp) fun h₈ hz₈ hs₈=>?_
 replace hz₈:IsZipF h₈ z TI TO (rawInt h₅.objs.size) (.bool false):=hz₈
 have up:∀c o,c≠z→h₅.get? c=some o→h₈.get? c=some o:=fun c o c1 e=>hs₈.extBut _ _ c1 (hs₇.extBut _ _ c1 (Heap.get?_push_of_some _ e))
 have hT₈:IsPair h₈ h₅.objs.size x y:=hs₈.extBut _ _ (Nat.ne_of_gt hzlt) (hs₇.extBut _ _ (Nat.ne_of_gt hzlt) (Heap.get?_push_size _ rfl))
 have hz8:h₈.objs.size=h₅.objs.size+1:=by rw[hs₈.1,hs₇.1,Heap.size_push]
 have q1:S1 h₈:=k1 h₂ h₈ st1 fun c o c1 c2 c4 e=>up c o c1 (hs₅.extBut _ _ c2 (hs₄.extBut _ _ c4 (hs₃.extBut _ _ c2 e)))
 have q2:S2 h₈:=k2 h₄ h₈ st2 fun c o c1 c2 e=>up c o c1 (hs₅.extBut _ _ c2 e)
 rw[hsz] at hz₈ hT₈ hz8
 refine wpAny_pure ⟨_,rfl,?_⟩
 show Q (.ref h₅.objs.size) _
 rw[hsz]
 exact hQ x y h₈ _ px py hz₈ (up _ _ D.TOz hTO₅) q1 q2 hT₈ hz8 fun c o c1 c2 c3 c4 e=>up c o c1 (hk₅ c o c1 c2 c3 c4 e)
theorem next_end {z TI TO i1 i2:Addr}{a b f1:Value}{P1:Value→Prop}{G1 G2 S1:Heap→Prop}{Q:Fin→Shared→Prop}(D:Apart z TI TO i1 i2)
  (hz:IsZipF s.heap z TI TO .none f1) (hTI:IsPair s.heap TI (.ref i1) (.ref i2)) (hTO:IsPair s.heap TO a b)
  (hend:Ends prog w A i1 G1∨(Yields prog w A i1 G1 P1 S1∧Ends prog w A i2 G2))
  (g1:∀h',(∀c o,c≠z→s.heap.get? c=some o→h'.get? c=some o)→G1 h') (g2:∀h',(∀c o,c≠z→c≠TO→c≠i1→s.heap.get? c=some o→h'.get? c=some o)→G2 h')
  (hE:∀h' tk e,(∀c o,c≠z→c≠TO→c≠i1→c≠i2→s.heap.get? c=some o→h'.get? c=some o)→(∃o,h'.get? e=some o∧o.cls=.type "StopIteration")→E (.ref e) {s with heap:=h',toks:=tk}) :
  wpAny (model prog w) A (Builtin.«zip.__next__» ⟨[.ref z],[]⟩) Q E s:=by
 show wpAny _ _ (field (.ref z) 2 >>= _) _ _ _
 refine wpAny_bind (wpAny_field hz rfl (x:=.bool false) rfl ?_)
 show wpAny _ _ (field (.ref z) 3 >>= _) _ _ _
 refine wpAny_bind (wpAny_field hz rfl (x:=.ref TI) rfl ?_)
 refine wpAny_bind (wpAny_seqItems hTI rfl ?_)
 show wpAny _ _ (Builtin.SmallTypes.ownedTupleIsFree (.ref z) >>= _) _ _ _
 refine wpAny_bind ?_
 unfold Builtin.SmallTypes.ownedTupleIsFree
 refine wpAny_bind (wpAny_field hz rfl (x:=.none) rfl (wpAny_pure ?_))
 simp only[if_true]
 refine wpAny_bind (wpAny_rule ?_)
 refine wpAny_bind (wpAny_field hz rfl (x:=.ref TO) rfl ?_)
 refine wpAny_bind (wpAny_setField_rec hz (by simp) fun h₁ hz₁ hs₁=>?_)
 replace hz₁:IsZipF h₁ z TI TO .ellipsis f1:=hz₁
 refine wpAny_bind ?_
 simp only[List.zipIdx_cons,List.zipIdx_nil,List.forIn_cons,List.forIn_nil]
 refine wpAny_bind (wpAny_bind (wpAny_onRaise ?_))
 show wpAny _ _ (Builtin.SmallTypes.nextOf (.ref i1) >>= _) _ _ _
 rcases hend with E1|⟨Y1,E2⟩
 ·refine wpAny_bind (E1 _ _ _ (g1 _ fun c o hc e=>hs₁.extBut _ _ hc e) fun h₂ e hs₂ he=>?_)
  obtain⟨oe,hoe,hce⟩:=he
  have hz₂:IsZipF h₂ z TI TO .ellipsis f1:=hs₂ _ _ D.i1z.symm hz₁
  have hez:e≠z:=fun x=>by subst x;rw[hz₂] at hoe;cases hoe;simp at hce
  refine wpAny_setField_rec hz₂ (by simp) fun h₃ _ hs₃=>hE h₃ _ e (fun c o c1 _ c3 _ x=>hs₃.extBut _ _ c1 (hs₂ _ _ c3 (hs₁.extBut _ _ c1 x))) ⟨oe,hs₃.extBut _ _ hez hoe,hce⟩
 ·refine wpAny_bind (Y1 _ _ _ (g1 _ fun c o hc e=>hs₁.extBut _ _ hc e) fun x h₂ tk₂ px st1 hs₂=>wpAny_pure ?_)
  have hTO₂:IsPair h₂ TO a b:=hs₂.extBut _ _ D.TOi1 (hs₁.extBut _ _ D.TOz hTO)
  refine wpAny_bind (wpAny_seqItems hTO₂ rfl ?_)
  refine wpAny_bind (wpAny_updateSeq_pair hTO₂ fun h₃ hTO₃ hs₃=>?_)
  refine wpAny_bind (wpAny_letGo (wpAny_pure ?_))
  refine wpAny_bind (wpAny_bind (wpAny_onRaise ?_))
  show wpAny _ _ (Builtin.SmallTypes.nextOf (.ref i2) >>= _) _ _ _
  refine wpAny_bind (E2 _ _ _ (g2 _ fun c o c1 c2 c3 e=>hs₃.extBut _ _ c2 (hs₂.extBut _ _ c3 (hs₁.extBut _ _ c1 e))) fun h₄ e hs₄ he=>?_)
  obtain⟨oe,hoe,hce⟩:=he
  have hz₄:IsZipF h₄ z TI TO .ellipsis f1:=hs₄ _ _ D.i2z.symm (hs₃.extBut _ _ D.TOz.symm (hs₂.extBut _ _ D.i1z.symm hz₁))
  have hez:e≠z:=fun x=>by subst x;rw[hz₄] at hoe;cases hoe;simp at hce
  refine wpAny_setField_rec hz₄ (by simp) fun h₅ _ hs₅=>hE h₅ _ e (fun c o c1 c2 c3 c4 x=>hs₅.extBut _ _ c1 (hs₄ _ _ c4 (hs₃.extBut _ _ c2 (hs₂.extBut _ _ c3 (hs₁.extBut _ _ c1 x))))) ⟨oe,hs₅.extBut _ _ hez hoe,hce⟩
end
end Zp
namespace Zp
open PySem
section
variable {prog:Program}{w:World}{A:Around}{E:Value→Shared→Prop}{s:Shared}
theorem alive {a:Addr}{o:Obj}{Q:Option Obj→Shared→Prop}(ho:s.heap.get? a=some o)(h:Q (some o) s):wpAny (model prog w) A (loadIfAlive a) Q E s:=by
 have h':Q (s.heap.get? a) s:=by rw[ho];exact h
 exact fun _ _ _=>h'
theorem zcN {z TI TO i1 i2 T:Addr}{oT:Obj}{P1 P2:Value→Prop}{fb:Bool}{G1 G2 S1 S2:Heap→Prop}{Q:Value→Shared→Prop}(D:Apart z TI TO i1 i2)
  (hz:IsZipF s.heap z TI TO (rawInt T) (.bool fb)) (hTI:IsPair s.heap TI (.ref i1) (.ref i2)) (hT:s.heap.get? T=some oT)
  (Y1:Yields prog w A i1 G1 P1 S1) (Y2:Yields prog w A i2 G2 P2 S2)
  (g1:∀h',(∀c o,c≠z→s.heap.get? c=some o→h'.get? c=some o)→G1 h') (g2:∀h',(∀c o,c≠z→c≠i1→s.heap.get? c=some o→h'.get? c=some o)→G2 h')
  (k1:∀h h',S1 h→(∀c o,c≠i2→h.get? c=some o→h'.get? c=some o)→S1 h')
  (k2:∀h h',S2 h→(∀c o,h.get? c=some o→h'.get? c=some o)→S2 h')
  (hQ:∀x y h' tk,P1 x→P2 y→IsZipF h' z TI TO (rawInt T) (.bool true)→S1 h'→S2 h'→IsPair h' s.heap.objs.size x y→h'.objs.size=s.heap.objs.size+1 →
   (∀c o,c≠z→c≠i1→c≠i2→s.heap.get? c=some o→h'.get? c=some o)→Q (.ref s.heap.objs.size) {s with heap:=h',toks:=tk}) :
  wpAny (model prog w) A (Builtin.«zip.__next__» ⟨[.ref z],[]⟩) (fun fin s'=>∃v,fin=.done (.ret v)∧Q v s') E s:=by
 show wpAny _ _ (field (.ref z) 2 >>= _) _ _ _
 refine wpAny_bind (wpAny_field hz rfl (x:=.bool false) rfl ?_)
 show wpAny _ _ (field (.ref z) 3 >>= _) _ _ _
 refine wpAny_bind (wpAny_field hz rfl (x:=.ref TI) rfl ?_)
 refine wpAny_bind (wpAny_seqItems hTI rfl ?_)
 show wpAny _ _ (Builtin.SmallTypes.ownedTupleIsFree (.ref z) >>= _) _ _ _
 refine wpAny_bind ?_
 unfold Builtin.SmallTypes.ownedTupleIsFree
 refine wpAny_bind (wpAny_field hz rfl (x:=rawInt T) rfl ?_)
 show wpAny _ _ (loadIfAlive ((T:Int).toNat) >>= _) _ _ _
 rw[Int.toNat_natCast]
 refine wpAny_bind (alive hT ?_)
 simp only[Option.isNone_some,Bool.false_eq_true,if_false]
 refine wpAny_bind (wpAny_field hz rfl (x:=.bool fb) rfl ?_)
 cases fb with
 | true =>
  rw[if_neg (show ¬((Value.bool true != Value.bool true)=true) from Bool.false_ne_true)]
  refine wpAny_pure ?_
  simp only[Bool.false_eq_true,if_false]
  have HZ:=hz
  have HS:Heap.SameBut z s.heap s.heap:=Heap.SameBut.refl _ _
  rw[← Array.forIn_toList]
  simp only[List.forIn_cons,List.forIn_nil]
  refine wpAny_bind (wpAny_bind (wpAny_bind (wpAny_holding ?_)))
  show wpAny _ _ (Builtin.SmallTypes.nextOf (.ref i1) >>= _) _ _ _
  refine wpAny_bind (Y1 _ _ _ (g1 _ fun c o hc e=>HS.extBut _ _ hc e) fun x h₂ tk₂ px st1 hs₂=>wpAny_pure (wpAny_pure ?_))
  refine wpAny_bind (wpAny_bind (wpAny_holding ?_))
  show wpAny _ _ (Builtin.SmallTypes.nextOf (.ref i2) >>= _) _ _ _
  refine wpAny_bind (Y2 _ _ _ (g2 _ fun c o c1 c3 e=>hs₂.extBut _ _ c3 (HS.extBut _ _ c1 e)) fun y h₄ tk₄ py st2 hs₄=>wpAny_pure (wpAny_pure (wpAny_pure ?_)))
  refine wpAny_bind (wpAny_newTuple ?_ (by show 2≤sizeLine;decide))
  have hsz:h₄.objs.size=s.heap.objs.size:=by rw[hs₄.1,hs₂.1,HS.1]
  have hz₄:IsZipF h₄ z TI TO (rawInt T) (.bool true):=hs₄.extBut _ _ D.i2z.symm (hs₂.extBut _ _ D.i1z.symm HZ)
  refine wpAny_pure ⟨_,rfl,?_⟩
  show Q (.ref h₄.objs.size) _
  rw[hsz]
  have hp:IsPair (h₄.push {cls:=.type "tuple", data:=.seq #[x,y]}) s.heap.objs.size x y:=by rw[← hsz];exact Heap.get?_push_size _ rfl
  exact hQ x y _ _ px py (Heap.get?_push_of_some _ hz₄) (k1 h₂ _ st1 fun c o hc e=>Heap.get?_push_of_some _ (hs₄.extBut _ _ hc e)) (k2 h₄ _ st2 fun c o e=>Heap.get?_push_of_some _ e) hp (by rw[Heap.size_push,hsz])
   fun c o c1 c3 c4 e=>Heap.get?_push_of_some _ (hs₄.extBut _ _ c4 (hs₂.extBut _ _ c3 (HS.extBut _ _ c1 e)))
 | false =>
  rw[if_pos (show(Value.bool false != Value.bool true)=true from rfl)]
  refine wpAny_bind (wpAny_setField_rec hz (by simp) fun h₁ hz₁ HS=>?_)
  replace HS:Heap.SameBut z s.heap h₁:=HS
  have HZ:IsZipF h₁ z TI TO (rawInt T) (.bool true):=hz₁
  refine wpAny_pure ?_
  simp only[Bool.false_eq_true,if_false]
  rw[← Array.forIn_toList]
  simp only[List.forIn_cons,List.forIn_nil]
  refine wpAny_bind (wpAny_bind (wpAny_bind (wpAny_holding ?_)))
  show wpAny _ _ (Builtin.SmallTypes.nextOf (.ref i1) >>= _) _ _ _
  refine wpAny_bind (Y1 _ _ _ (g1 _ fun c o hc e=>HS.extBut _ _ hc e) fun x h₂ tk₂ px st1 hs₂=>wpAny_pure (wpAny_pure ?_))
  refine wpAny_bind (wpAny_bind (wpAny_holding ?_))
  show wpAny _ _ (Builtin.SmallTypes.nextOf (.ref i2) >>= _) _ _ _
  refine wpAny_bind (Y2 _ _ _ (g2 _ fun c o c1 c3 e=>hs₂.extBut _ _ c3 (HS.extBut _ _ c1 e)) fun y h₄ tk₄ py st2 hs₄=>wpAny_pure (wpAny_pure (wpAny_pure ?_)))
  refine wpAny_bind (wpAny_newTuple ?_ (by show 2≤sizeLine;decide))
  have hsz:h₄.objs.size=s.heap.objs.size:=by rw[hs₄.1,hs₂.1,HS.1]
  have hz₄:IsZipF h₄ z TI TO (rawInt T) (.bool true):=hs₄.extBut _ _ D.i2z.symm (hs₂.extBut _ _ D.i1z.symm HZ)
  refine wpAny_pure ⟨_,rfl,?_⟩
  show Q (.ref h₄.objs.size) _
  rw[hsz]
  have hp:IsPair (h₄.push {cls:=.type "tuple", data:=.seq #[x,y]}) s.heap.objs.size x y:=by rw[← hsz];exact Heap.get?_push_size _ rfl
  exact hQ x y _ _ px py (Heap.get?_push_of_some _ hz₄) (k1 h₂ _ st1 fun c o hc e=>Heap.get?_push_of_some _ (hs₄.extBut _ _ hc e)) (k2 h₄ _ st2 fun c o e=>Heap.get?_push_of_some _ e) hp (by rw[Heap.size_push,hsz])
   fun c o c1 c3 c4 e=>Heap.get?_push_of_some _ (hs₄.extBut _ _ c4 (hs₂.extBut _ _ c3 (HS.extBut _ _ c1 e)))
theorem zif {z TI TO i1 i2 T:Addr}{oT:Obj}{P1:Value→Prop}{fb:Bool}{G1 G2 S1:Heap→Prop}{Q:Fin→Shared→Prop}(D:Apart z TI TO i1 i2)
  (hz:IsZipF s.heap z TI TO (rawInt T) (.bool fb)) (hTI:IsPair s.heap TI (.ref i1) (.ref i2)) (hT:s.heap.get? T=some oT)
  (hend:Ends prog w A i1 G1∨(Yields prog w A i1 G1 P1 S1∧Ends prog w A i2 G2))
  (g1:∀h',(∀c o,c≠z→s.heap.get? c=some o→h'.get? c=some o)→G1 h') (g2:∀h',(∀c o,c≠z→c≠i1→s.heap.get? c=some o→h'.get? c=some o)→G2 h')
  (hE:∀h' tk e,(∀c o,c≠z→c≠i1→c≠i2→s.heap.get? c=some o→h'.get? c=some o)→(∃o,h'.get? e=some o∧o.cls=.type "StopIteration")→E (.ref e) {s with heap:=h',toks:=tk}) :
  wpAny (model prog w) A (Builtin.«zip.__next__» ⟨[.ref z],[]⟩) Q E s:=by
 show wpAny _ _ (field (.ref z) 2 >>= _) _ _ _
 refine wpAny_bind (wpAny_field hz rfl (x:=.bool false) rfl ?_)
 show wpAny _ _ (field (.ref z) 3 >>= _) _ _ _
 refine wpAny_bind (wpAny_field hz rfl (x:=.ref TI) rfl ?_)
 refine wpAny_bind (wpAny_seqItems hTI rfl ?_)
 show wpAny _ _ (Builtin.SmallTypes.ownedTupleIsFree (.ref z) >>= _) _ _ _
 refine wpAny_bind ?_
 unfold Builtin.SmallTypes.ownedTupleIsFree
 refine wpAny_bind (wpAny_field hz rfl (x:=rawInt T) rfl ?_)
 show wpAny _ _ (loadIfAlive ((T:Int).toNat) >>= _) _ _ _
 rw[Int.toNat_natCast]
 refine wpAny_bind (alive hT ?_)
 simp only[Option.isNone_some,Bool.false_eq_true,if_false]
 refine wpAny_bind (wpAny_field hz rfl (x:=.bool fb) rfl ?_)
 cases fb with
 | true =>
  rw[if_neg (show ¬((Value.bool true != Value.bool true)=true) from Bool.false_ne_true)]
  refine wpAny_pure ?_
  simp only[Bool.false_eq_true,if_false]
  have HS:Heap.SameBut z s.heap s.heap:=Heap.SameBut.refl _ _
  rw[← Array.forIn_toList]
  simp only[List.forIn_cons,List.forIn_nil]
  refine wpAny_bind (wpAny_bind (wpAny_bind (wpAny_holding ?_)))
  show wpAny _ _ (Builtin.SmallTypes.nextOf (.ref i1) >>= _) _ _ _
  rcases hend with E1|⟨Y1,E2⟩
  ·refine wpAny_bind (E1 _ _ _ (g1 _ fun c o hc e=>HS.extBut _ _ hc e) fun h₂ e hs₂ he=>?_)
   exact hE h₂ _ e (fun c o c1 c3 _ x=>hs₂ _ _ c3 (HS.extBut _ _ c1 x)) he
  ·refine wpAny_bind (Y1 _ _ _ (g1 _ fun c o hc e=>HS.extBut _ _ hc e) fun x h₂ tk₂ px st1 hs₂=>wpAny_pure (wpAny_pure ?_))
   refine wpAny_bind (wpAny_bind (wpAny_holding ?_))
   show wpAny _ _ (Builtin.SmallTypes.nextOf (.ref i2) >>= _) _ _ _
   refine wpAny_bind (E2 _ _ _ (g2 _ fun c o c1 c3 e=>hs₂.extBut _ _ c3 (HS.extBut _ _ c1 e)) fun h₄ e hs₄ he=>?_)
   exact hE h₄ _ e (fun c o c1 c3 c4 x=>hs₄ _ _ c4 (hs₂.extBut _ _ c3 (HS.extBut _ _ c1 x))) he
 | false =>
  rw[if_pos (show(Value.bool false != Value.bool true)=true from rfl)]
  refine wpAny_bind (wpAny_setField_rec hz (by simp) fun h₁ hz₁ HS=>?_)
  replace HS:Heap.SameBut z s.heap h₁:=HS
  refine wpAny_pure ?_
  simp only[Bool.false_eq_true,if_false]
  rw[← Array.forIn_toList]
  simp only[List.forIn_cons,List.forIn_nil]
  refine wpAny_bind (wpAny_bind (wpAny_bind (wpAny_holding ?_)))
  show wpAny _ _ (Builtin.SmallTypes.nextOf (.ref i1) >>= _) _ _ _
  rcases hend with E1|⟨Y1,E2⟩
  ·refine wpAny_bind (E1 _ _ _ (g1 _ fun c o hc e=>HS.extBut _ _ hc e) fun h₂ e hs₂ he=>?_)
   exact hE h₂ _ e (fun c o c1 c3 _ x=>hs₂ _ _ c3 (HS.extBut _ _ c1 x)) he
  ·refine wpAny_bind (Y1 _ _ _ (g1 _ fun c o hc e=>HS.extBut _ _ hc e) fun x h₂ tk₂ px st1 hs₂=>wpAny_pure (wpAny_pure ?_))
   refine wpAny_bind (wpAny_bind (wpAny_holding ?_))
   show wpAny _ _ (Builtin.SmallTypes.nextOf (.ref i2) >>= _) _ _ _
   refine wpAny_bind (E2 _ _ _ (g2 _ fun c o c1 c3 e=>hs₂.extBut _ _ c3 (HS.extBut _ _ c1 e)) fun h₄ e hs₄ he=>?_)
   exact hE h₄ _ e (fun c o c1 c3 c4 x=>hs₄ _ _ c4 (hs₂.extBut _ _ c3 (HS.extBut _ _ c1 x))) he
end
end Zp
set_option maxHeartbeats 2000000
namespace Zp
open PySem
section
variable {prog:Program}{w:World}{A:Around}
theorem yields_tuple {it t:Addr}{i:Nat}{items:Array Value}{x:Value}(hne:t≠it)(hx:items[i]? = some x) :
  Yields prog w A it (fun h=>h.IsTupleIter it t i∧h.IsTuple t items) (fun v=>v=x) (fun h=>h.IsTupleIter it t (i+1)∧h.IsTuple t items) :=
 fun s Q E g hQ=>jV g.1 g.2 hx fun h' st sb=>hQ _ h' s.toks rfl ⟨st,g.2.extBut sb.extBut hne⟩ sb
theorem ends_tuple {it t:Addr}{i:Nat}{items:Array Value}(hh:A.handled=none)(hx:items[i]? = none) :
  Ends prog w A it (fun h=>h.IsTupleIter it t i∧h.IsTuple t items) :=
 fun s Q E g hE=>zaB hh g.1 g.2 hx hE
theorem yields_ascii {it:Addr}{x:Str}{t:Tok}{i c:Nat}(hx:x.cps[i]? = some c) :
  Yields prog w A it (fun h=>h.IsStrIter it "str_ascii_iterator" x t i) (fun v=>∃u,v=.str ⟨#[c]⟩ u) (fun h=>h.IsStrIter it "str_ascii_iterator" x t (i+1)) :=
 fun s Q E g hQ=>zae g hx fun h' st sb=>hQ _ h' _ ⟨_,rfl⟩ st sb
theorem ends_ascii {it:Addr}{x:Str}{t:Tok}{i:Nat}(hh:A.handled=none)(hx:x.cps[i]? = none) :
  Ends prog w A it (fun h=>h.IsStrIter it "str_ascii_iterator" x t i) :=
 fun s Q E g hE=>zaz hh g hx hE
end
section
variable {prog:Program}{w:World}{A:Around}{E:Value→Shared→Prop}{s:Shared}
abbrev zH2 (h:Heap)(o1 o2:Obj):Heap:=(h.push o1).push o2
abbrev zH3 (h:Heap)(o1 o2:Obj):Heap:=(zH2 h o1 o2).push {cls:=.type "tuple", data:=.seq #[.ref h.objs.size,.ref (h.push o1).objs.size]}
abbrev zH4 (h:Heap)(o1 o2:Obj):Heap:=(zH3 h o1 o2).push {cls:=.type "tuple", data:=.seq #[.none,.none]}
abbrev zH5 (h:Heap)(o1 o2:Obj):Heap:=(zH4 h o1 o2).push {cls:=.type "zip", data:=.fields #[.none,.bool false,.bool false,.ref (zH2 h o1 o2).objs.size,.ref (zH3 h o1 o2).objs.size]}
abbrev tIter (t:Addr):Obj:={cls:=.type "tuple_iterator", data:=.fields #[.ref t,.int 0 0]}
abbrev sIter (x:Str)(t:Tok):Obj:={cls:=.type "str_ascii_iterator", data:=.fields #[.str x t,.int 0 0]}
theorem meets_st_aux {prog:Program}{w:World}{A:Around}{a b:Value}{s:Shared}{h1 h2:Heap}{i1 i2:Addr}{E:Value→Shared→Prop}{Q:Fin→Shared→Prop}
  (p1:∀(Q:Value→Shared→Prop) (E:Value→Shared→Prop),Q (.ref i1) {s with heap:=h1}→wpAny (model prog w) A (pyIter a) Q E s)
  (p2:∀(Q:Value→Shared→Prop) (E:Value→Shared→Prop),Q (.ref i2) {s with heap:=h2}→wpAny (model prog w) A (pyIter b) Q E {s with heap:=h1})
  (hQ:Q (.done (.ret (.ref (h2.objs.size+2)))) {s with heap:=((h2.push {cls:=.type "tuple", data:=.seq #[.ref i1,.ref i2]}).push {cls:=.type "tuple", data:=.seq #[.none,.none]}).push {cls:=.type "zip", data:=.fields #[.none,.bool false,.bool false,.ref h2.objs.size,.ref (h2.objs.size+1)]} }) :
  wpAny (model prog w) A (Builtin.«zip.__new__» ⟨[.type "zip", a,b],[]⟩) Q E s:=by
 obtain⟨hp,g,d,tk,os⟩:=s
 have hsub:=sub_zip
 have z1:(h2.push {cls:=.type "tuple", data:=.seq #[.ref i1,.ref i2]}).objs.size=h2.objs.size+1:=Heap.size_push ..
 have z2:((h2.push {cls:=.type "tuple", data:=.seq #[.ref i1,.ref i2]}).push {cls:=.type "tuple", data:=.seq #[.none,.none]}).objs.size=h2.objs.size+2:=by rw[Heap.size_push,z1]
 rw[← z2,← z1] at hQ
 wp_walk using p1 _ _,p2 _ _
 exact hQ
def Made5 (h h':Heap)(o1 o2:Obj):Prop :=
 IsZipF h' (h.objs.size+4) (h.objs.size+2) (h.objs.size+3) .none (.bool false)∧IsPair h' (h.objs.size+2) (.ref h.objs.size) (.ref (h.objs.size+1)) ∧
  IsPair h' (h.objs.size+3) .none .none∧h'.get? h.objs.size=some o1∧h'.get? (h.objs.size+1)=some o2∧h'.objs.size=h.objs.size+5∧∀c o,h.get? c=some o→h'.get? c=some o
theorem made5 (h:Heap)(o1 o2:Obj)(f1:o1.isFreed=false)(f2:o2.isFreed=false):Made5 h (zH5 h o1 o2) o1 o2∧(zH4 h o1 o2).objs.size=h.objs.size+4:=by
 have z1:(h.push o1).objs.size=h.objs.size+1:=Heap.size_push ..
 have z2:(zH2 h o1 o2).objs.size=h.objs.size+2:=by rw[Heap.size_push,z1]
 have z3:(zH3 h o1 o2).objs.size=h.objs.size+3:=by rw[Heap.size_push,z2]
 have z4:(zH4 h o1 o2).objs.size=h.objs.size+4:=by rw[Heap.size_push,z3]
 have z5:(zH5 h o1 o2).objs.size=h.objs.size+5:=by rw[Heap.size_push,z4]
 have g5:(zH5 h o1 o2).get? (zH4 h o1 o2).objs.size=some _:=Heap.get?_push_size _ rfl
 have g4:(zH5 h o1 o2).get? (zH3 h o1 o2).objs.size=some _:=Heap.get?_push_of_some _ (Heap.get?_push_size _ rfl)
 have g3:(zH5 h o1 o2).get? (zH2 h o1 o2).objs.size=some _:=Heap.get?_push_of_some _ (Heap.get?_push_of_some _ (Heap.get?_push_size _ rfl))
 have g2:(zH5 h o1 o2).get? (h.push o1).objs.size=some o2:=Heap.get?_push_of_some _ (Heap.get?_push_of_some _ (Heap.get?_push_of_some _ (Heap.get?_push_size _ f2)))
 have g1:(zH5 h o1 o2).get? h.objs.size=some o1:=Heap.get?_push_of_some _ (Heap.get?_push_of_some _ (Heap.get?_push_of_some _ (Heap.get?_push_of_some _ (Heap.get?_push_size _ f1))))
 rw[z2,z3,z4] at g5
 rw[z1,z2] at g3
 rw[z3] at g4
 rw[z1] at g2
 exact⟨⟨g5,g3,g4,g1,g2,z5,fun c o x=>Heap.get?_push_of_some _ (Heap.get?_push_of_some _ (Heap.get?_push_of_some _ (Heap.get?_push_of_some _ (Heap.get?_push_of_some _ x))))⟩,z4⟩
end
end Zp
namespace Zp
open PySem
theorem zaq:typeLookup (.type "zip") "__getattr__" = pure none:=by rw[typeLookup_type,builtinLookup_eq_fast];kernel_rfl
theorem zcw:typeLookup (.type "zip") "keys" = pure none:=by rw[typeLookup_type,builtinLookup_eq_fast];kernel_rfl
theorem qJ:entryFor table "zip.__getattribute__" = some Builtin.«object.__getattribute__» :=
 entryFor_alias (id' := "object.__getattribute__") (by kernel_rfl) (by decide +kernel) (by decide +kernel) (by kernel_rfl)
theorem zfu (a:Addr)(vs:Array Value)(name:Str)(u:Tok)(hmiss:typeLookup (.type "zip") name=pure none)(hname:(["__module__", "__name__", "__qualname__", "__doc__", "__annotations__"]:List Str).contains name=false)(hsz:name.length+100≤sizeLine:=by size_fits) :
  Meets (Builtin.«object.__getattribute__» ⟨[.ref a,.str name u],[]⟩) (fun A R s=>s.heap.get? a=some {cls:=.type "zip", dict:=none,data:=.fields vs,slots:=#[]}∧raisesAttr (.ref a) name A R s) :=
 Meets.of_wp fun prog w A R s hs=>by
  obtain⟨hp,g,d,tk,os⟩:=s
  obtain⟨hx,hs⟩:=hs
  have hT:(⟨hp,g,d,tk,os⟩:Shared).TypeIs (.ref a) "zip" := ⟨_,hx,rfl⟩
  unfold Builtin.«object.__getattribute__»
  repeat (any_goals (first|assumption|wp_step))
  simp only[hname,Bool.false_eq_true,if_false]
  repeat (any_goals (first|assumption|wp_step))
  exact wpAny_raiseAttrError hs.1 hs.2 (attrMsg_fits (by decide +kernel) hsz)
theorem zjD {prog:Program}{w:World}{A:Around}{E:Value→Shared→Prop}{s:Shared}{a:Addr}{vs:Array Value}{Q:Option Value→Shared→Prop}
  (hx:s.heap.get? a=some {cls:=.type "zip", dict:=none,data:=.fields vs,slots:=#[]}) (hA:A.handled=none)
  (h:∀h' tk,(∀b o,s.heap.get? b=some o→h'.get? b=some o)→Q none {s with heap:=h',toks:=tk}) :
  wpAny (model prog w) A (getAttr? (.ref a) "keys") Q E s:=by
 obtain⟨hp,g,d,tk,os⟩:=s
 have hT:∀tk',(⟨hp,g,d,tk',os⟩:Shared).TypeIs (.ref a) "zip" := fun _=>⟨_,hx,rfl⟩
 have f1:=sub_AttributeError
 have f3:=F.slot_zip_getattribute.lookup
 have f4:=F.slot_zip_getattribute.bind (.ref a)
 have f5:=zaq
 unfold getAttr? getAttrBy? getAttrBy
 repeat (any_goals (first|assumption|exact hT _|((with_reducible show wpAny _ _ (call (Value.builtin "zip.__getattribute__") _ _) _ _ _);refine call_meets F.slot_zip_getattribute (hT _) qJ (F.args_zip_getattribute_2 _ _) (zfu a vs "keys" _ zcw (by decide +kernel) (by decide +kernel)) ⟨hx,hA,fun h' tk' e hx'=>?_⟩)|wp_step))
 obtain⟨t',u',he⟩:=hx'.there
 show wpAny _ _ (getattributeRaised _ _ _ _ _ _ _) _ _ _
 unfold getattributeRaised hookBehind onTheHeap hookOrError attributeErrorLeaves
 repeat (any_goals (first|assumption|wp_step))
 exact h _ _ hx'.keeps
structure ZSt (h:Heap)(z TI TO i1 i2 tp d:Addr)(x:Str)(t:Tok)(ys:Array Value)(i:Nat):Prop where
 zip:(∃f1,IsZipF h z TI TO .none (.bool f1))∨∃(T:Addr) (oT:Obj) (fb:Bool),IsZipF h z TI TO (rawInt T) (.bool fb)∧h.get? T=some oT∧T≠z∧T≠TO∧T≠i1∧T≠i2∧T≠d
 ti:IsPair h TI (.ref i1) (.ref i2)
 to:∃a b,IsPair h TO a b
 s1:h.IsStrIter i1 "str_ascii_iterator" x t i
 s2:h.IsTupleIter i2 tp i∧h.IsTuple tp ys
structure ZAp (z TI TO i1 i2 tp d:Addr):Prop where
 D:Apart z TI TO i1 i2
 tz:tp≠z
 tO:tp≠TO
 t1:tp≠i1
 t2:tp≠i2
 dz:d≠z
 dI:d≠TI
 dO:d≠TO
 d1:d≠i1
 d2:d≠i2
 dt:d≠tp
theorem ZSt.dict {h h':Heap}{z TI TO i1 i2 tp d:Addr}{x:Str}{t:Tok}{ys:Array Value}{i:Nat}(Z:ZSt h z TI TO i1 i2 tp d x t ys i)(Y:ZAp z TI TO i1 i2 tp d)
  (k:∀c o,c≠d→h.get? c=some o→h'.get? c=some o):ZSt h' z TI TO i1 i2 tp d x t ys i:=by
 obtain⟨zp,ti,⟨a,b,to⟩,⟨o1,e1,r1⟩,⟨o2,e2,r2⟩,o3,e3,r3⟩:=Z
 refine⟨?_,k _ _ (Ne.symm Y.dI) ti,⟨a,b,k _ _ (Ne.symm Y.dO) to⟩,⟨o1,k _ _ (Ne.symm Y.d1) e1,r1⟩,⟨o2,k _ _ (Ne.symm Y.d2) e2,r2⟩,o3,k _ _ (Ne.symm Y.dt) e3,r3⟩
 rcases zp with⟨f1,hz⟩|⟨T,oT,fb,hz,hT,n1,n2,n3,n4,n5⟩
 ·exact .inl ⟨f1,k _ _ (Ne.symm Y.dz) hz⟩
 ·exact .inr ⟨T,oT,fb,k _ _ (Ne.symm Y.dz) hz,k _ _ n5 hT,n1,n2,n3,n4,n5⟩
section
variable {prog:Program}{w:World}{A:Around}{E:Value→Shared→Prop}{s:Shared}
theorem ZSt.next {z TI TO i1 i2 tp d:Addr}{x:Str}{t:Tok}{ys:Array Value}{i c:Nat}{y:Value}{Q:Option Value→Shared→Prop}(Z:ZSt s.heap z TI TO i1 i2 tp d x t ys i)(Y:ZAp z TI TO i1 i2 tp d)
  (hd:d<s.heap.objs.size) (hc:x.cps[i]? = some c) (hy:ys[i]? = some y)
  (hQ:∀(T:Addr) u h' tk,ZSt h' z TI TO i1 i2 tp d x t ys (i+1)→IsPair h' T (.str ⟨#[c]⟩ u) y→(∀c o,c≠z→c≠TO→c≠i1→c≠i2→s.heap.get? c=some o→h'.get? c=some o)→h'.objs.size=s.heap.objs.size+1→Q (some (.ref T)) {s with heap:=h',toks:=tk}) :
  wpAny (model prog w) A (pyNext (.ref z)) Q E s:=by
 obtain⟨zp,ti,⟨a,b,to⟩,s1,s2⟩:=Z
 have D:=Y.D
 obtain⟨o1,e1,r1⟩:=id s1
 obtain⟨⟨o2,e2,r2⟩,o3,e3,r3⟩:=id s2
 have lt:∀{c:Addr}{o:Obj},s.heap.get? c=some o→s.heap.objs.size≠c:=fun e=>Nat.ne_of_gt (Heap.lt_size e)
 have Y1:=yields_ascii (prog:=prog) (w:=w) (A:=A.in1) (it:=i1) (t:=t) hc
 have Y2:=yields_tuple (prog:=prog) (w:=w) (A:=A.in1) Y.t2 hy
 rcases zp with⟨f1,hz⟩|⟨T,oT,fb,hz,hT,n1,n2,n3,n4,n5⟩
 ·have hTy:s.TypeIs (.ref z) "zip" := ⟨_,hz,rfl⟩
  unfold pyNext
  refine wpAny_bind (wpAny_attempt (wpAny_callSpecial?_slot (name:=Str.ofString "__next__") hTy F.slot_zip_next
   (wpAny_call_entry F.slot_zip_next hTy F.entry_zip_next (next_item D hz ti to Y1 Y2 ?_ ?_ ?_ ?_ ?_) (F.args_zip_next_1 _))))
  ·exact fun h' k=>⟨o1,k _ _ D.i1z e1,r1⟩
  ·exact fun h' k=>⟨⟨o2,k _ _ D.i2z D.TOi2.symm D.i12.symm e2,r2⟩,o3,k _ _ Y.tz Y.tO Y.t1 e3,r3⟩
  ·exact fun h h' ⟨p1,q1,w1⟩ k=>⟨p1,k _ _ D.i1z D.TOi1.symm D.i12 q1,w1⟩
  ·exact fun h h' ⟨⟨p1,q1,w1⟩,p2,q2,w2⟩ k=>⟨⟨p1,k _ _ D.i2z D.TOi2.symm q1,w1⟩,p2,k _ _ Y.tz Y.tO q2,w2⟩
  ·rintro v1 v2 h' tk ⟨u,rfl⟩ rfl z' to' q1 q2 hp hsz k
   refine wpAny_pure (hQ _ u h' tk ⟨.inr ⟨_,_,false,z',hp,lt hz,lt to,lt e1,lt e2,Nat.ne_of_gt hd⟩,k _ _ D.TIz D.TITO D.TIi1 D.TIi2 ti,⟨_,_,to'⟩,q1,q2⟩ hp k hsz)
 ·have hTy:s.TypeIs (.ref z) "zip" := ⟨_,hz,rfl⟩
  unfold pyNext
  refine wpAny_bind (wpAny_attempt (wpAny_callSpecial?_slot (name:=Str.ofString "__next__") hTy F.slot_zip_next
   (wpAny_call_entry F.slot_zip_next hTy F.entry_zip_next (zcN D hz ti hT Y1 Y2 ?_ ?_ ?_ ?_ ?_) (F.args_zip_next_1 _))))
  ·exact fun h' k=>⟨o1,k _ _ D.i1z e1,r1⟩
  ·exact fun h' k=>⟨⟨o2,k _ _ D.i2z D.i12.symm e2,r2⟩,o3,k _ _ Y.tz Y.t1 e3,r3⟩
  ·exact fun h h' ⟨p1,q1,w1⟩ k=>⟨p1,k _ _ D.i12 q1,w1⟩
  ·exact fun h h' ⟨⟨p1,q1,w1⟩,p2,q2,w2⟩ k=>⟨⟨p1,k _ _ q1,w1⟩,p2,k _ _ q2,w2⟩
  ·rintro v1 v2 h' tk ⟨u,rfl⟩ rfl z' q1 q2 hp hsz k
   exact wpAny_pure (hQ _ u h' tk ⟨.inr ⟨T,oT,true,z',k _ _ n1 n3 n4 hT,n1,n2,n3,n4,n5⟩,k _ _ D.TIz D.TIi1 D.TIi2 ti,⟨_,_,k _ _ D.TOz D.TOi1 D.TOi2 to⟩,q1,q2⟩ hp (fun c o c1 _ c3 c4 e=>k c o c1 c3 c4 e) hsz)
end
end Zp
namespace Zp
open PySem
theorem zbR:entryFor table "dict.update.loop" = some Builtin.«dict.update.loop»:=entryFor_of_fast (by kernel_rfl)
theorem jb:plainId "dict.update.loop" = true:=by decide +kernel
end Zp
namespace Zp
open PySem
end Zp
namespace Zp
open PySem
section
variable {prog:Program}{w:World}{A:Around}{E:Value→Shared→Prop}{s:Shared}
theorem nextOf_list_item {it t:Addr}{i:Nat}{items}{x:Value}{Q:Value→Shared→Prop}(hit:s.heap.IsListIter it t i)
  (ht:s.heap.IsList t items) (hx:items[i]? = some x)
  (hQ:∀h',h'.IsListIter it t (i+1)→Heap.SameBut it s.heap h'→Q x {s with heap:=h'}) :
  wpAny (model prog w) A (Builtin.SmallTypes.nextOf (.ref it)) Q E s:=by
 obtain⟨o,ho,hc,hd⟩:=id hit
 obtain⟨ol,hol,_,nl,hdl⟩:=ht
 unfold Builtin.SmallTypes.nextOf
 refine wpAny_bind (wpAny_callSpecial?_slot (name:=Str.ofString "__next__") hit.typeIs slot_listiter_next
  (wpAny_call_entry slot_listiter_next hit.typeIs entry_listiter_next ?_ (args_listiter_next _)))
 show wpAny _ _ (field (.ref it) 0 >>= _) _ _ s
 refine wpAny_bind (wpAny_field ho hd (x:=.ref t) rfl ?_)
 show wpAny _ _ (if (Value.ref t == Value.none)=true then _ else _) _ _ s
 rw[if_neg (show ¬((Value.ref t == Value.none)=true) from Bool.false_ne_true)]
 show wpAny _ _ (field (.ref it) 1 >>= _) _ _ s
 refine wpAny_bind (wpAny_field ho hd (x:=.int i 0) rfl ?_)
 show wpAny _ _ (seqItems? (.ref t) >>= _) _ _ s
 refine wpAny_bind (wpAny_seqItems hol hdl ?_)
 simp only[Int.toNat_natCast,hx]
 refine wpAny_bind (wpAny_setField ho hd (by simp) (wpAny_pure ⟨x,rfl,wpAny_pure (hQ _ ?_ (Heap.SameBut.update ..))⟩))
 exact ⟨_,Heap.get?_update_self _ ho (Obj.isFreed_of_fields (Obj.data_mapFields hd _)),(Obj.cls_mapFields ..).trans hc,by
  rw[Obj.data_mapFields hd];simp[rawInt]⟩
theorem nextOf_list_end {it t:Addr}{i:Nat}{items}{Q:Value→Shared→Prop}(hh:A.handled=none)
  (hit:s.heap.IsListIter it t i) (ht:s.heap.IsList t items) (hx:items[i]? = none)
  (hE:∀h' e,Heap.ExtBut it s.heap h'→(∃o,h'.get? e=some o∧o.cls=.type "StopIteration")→E (.ref e) {s with heap:=h'}) :
  wpAny (model prog w) A (Builtin.SmallTypes.nextOf (.ref it)) Q E s:=by
 obtain⟨o,ho,hc,hd⟩:=id hit
 obtain⟨ol,hol,_,nl,hdl⟩:=ht
 unfold Builtin.SmallTypes.nextOf
 refine wpAny_bind (wpAny_callSpecial?_slot (name:=Str.ofString "__next__") hit.typeIs slot_listiter_next
  (wpAny_call_entry slot_listiter_next hit.typeIs entry_listiter_next ?_ (args_listiter_next _)))
 show wpAny _ _ (field (.ref it) 0 >>= _) _ _ s
 refine wpAny_bind (wpAny_field ho hd (x:=.ref t) rfl ?_)
 show wpAny _ _ (if (Value.ref t == Value.none)=true then _ else _) _ _ s
 rw[if_neg (show ¬((Value.ref t == Value.none)=true) from Bool.false_ne_true)]
 show wpAny _ _ (field (.ref it) 1 >>= _) _ _ s
 refine wpAny_bind (wpAny_field ho hd (x:=.int i 0) rfl ?_)
 show wpAny _ _ (seqItems? (.ref t) >>= _) _ _ s
 refine wpAny_bind (wpAny_seqItems hol hdl ?_)
 simp only[Int.toNat_natCast,hx]
 refine wpAny_bind (wpAny_rule (wpAny_bind (wpAny_setField ho hd (by simp) ?_)))
 show wpAny _ _ (newExc (.type "StopIteration") [] >>= _) _ _ _
 refine wpAny_bind ?_
 simp only[newExc,newTuple]
 refine wpAny_bind (wpAny_newObj_type ?_ (by size_fits))
 refine wpAny_bind (m:=firstArgMember _ _) (wpAny_of_eq (a:=Value.none) (by first|rfl|(simp only[firstArgMember];rfl)) ?_)
 refine wpAny_newObj_type ?_ (by size_fits)
 simp only[raiseNew]
 refine wpAny_bind (wpAny_handled ?_)
 first|rw[show A.in1.handled=none from hh] | rw[hh]
 refine wpAny_bind (wpAny_pure (wpAny_throw ?_))
 exact hE _ _ (((Heap.SameBut.update ..).extBut.push _).push _) ⟨_,Heap.get?_push_size _ rfl,rfl⟩
end
structure Src (prog:Program)(w:World)(it tp:Addr)(n:Nat)(g:Nat→Value)(S:Nat→Heap→Prop):Prop where
 yl:∀(A:Around) (i:Nat),i<n→Yields prog w A it (S i) (fun v=>v=g i) (S (i+1))
 en:∀(A:Around) (i:Nat),A.handled=none→n≤i→Ends prog w A it (S i)
 mv:∀(i:Nat) (h h':Heap),S i h→(∀o,h.get? it=some o→h'.get? it=some o)→(∀o,h.get? tp=some o→h'.get? tp=some o)→S i h'
 li:∀(i:Nat) (h:Heap),S i h→(∃o,h.get? it=some o)∧∃o,h.get? tp=some o
theorem src_tup {prog:Program}{w:World}{it tp:Addr}{xs:Array Value}(hne:tp≠it):Src prog w it tp xs.size (fun i=>xs.getD i .none) (fun i h=>h.IsTupleIter it tp i∧h.IsTuple tp xs) :=
 ⟨fun A i hi=>yields_tuple hne (by rw[Array.getElem?_eq_getElem hi];simp[Array.getD,hi]),fun A i hh hi=>ends_tuple hh (Array.getElem?_eq_none hi),
  fun i h h' ⟨⟨o,e,r⟩,o2,e2,r2⟩ k1 k2=>⟨⟨o,k1 _ e,r⟩,o2,k2 _ e2,r2⟩,fun i h ⟨⟨o,e,r⟩,o2,e2,r2⟩=>⟨⟨o,e⟩,o2,e2⟩⟩
theorem src_lst {prog:Program}{w:World}{it tp:Addr}{xs:Array Value}(hne:tp≠it):Src prog w it tp xs.size (fun i=>xs.getD i .none) (fun i h=>h.IsListIter it tp i∧h.IsList tp xs) :=
 ⟨fun A i hi s Q E g hQ=>nextOf_list_item g.1 g.2 (Array.getElem?_eq_getElem hi) fun h' st sb=>hQ _ h' s.toks (by simp[Array.getD,hi]) ⟨st,g.2.extBut sb.extBut hne⟩ sb,
  fun A i hh hi s Q E g hE=>nextOf_list_end hh g.1 g.2 (Array.getElem?_eq_none hi) hE,
  fun i h h' ⟨⟨o,e,r⟩,o2,e2,r2⟩ k1 k2=>⟨⟨o,k1 _ e,r⟩,o2,k2 _ e2,r2⟩,fun i h ⟨⟨o,e,r⟩,o2,e2,r2⟩=>⟨⟨o,e⟩,o2,e2⟩⟩
structure GAp (z TI TO i1 i2 p1 p2 d:Addr):Prop where
 D:Apart z TI TO i1 i2
 az:p1≠z
 aO:p1≠TO
 a2:p1≠i2
 bz:p2≠z
 bO:p2≠TO
 b1:p2≠i1
 dz:d≠z
 dI:d≠TI
 dO:d≠TO
 d1:d≠i1
 d2:d≠i2
 da:d≠p1
 db:d≠p2
structure GSt (h:Heap)(z TI TO i1 i2 d:Addr)(S1 S2:Nat→Heap→Prop)(i:Nat):Prop where
 zip:(∃f1,IsZipF h z TI TO .none (.bool f1))∨∃(T:Addr) (oT:Obj) (fb:Bool),IsZipF h z TI TO (rawInt T) (.bool fb)∧h.get? T=some oT∧T≠z∧T≠TO∧T≠i1∧T≠i2∧T≠d
 ti:IsPair h TI (.ref i1) (.ref i2)
 to:∃a b,IsPair h TO a b
 s1:S1 i h
 s2:S2 i h
section
variable {prog:Program}{w:World}{A:Around}{E:Value→Shared→Prop}{s:Shared}{z TI TO i1 i2 p1 p2 d:Addr}{n1 n2:Nat}{g1 g2:Nat→Value}{S1 S2:Nat→Heap→Prop}
theorem GSt.dict {h h':Heap}{i:Nat}(Z:GSt h z TI TO i1 i2 d S1 S2 i)(Y:GAp z TI TO i1 i2 p1 p2 d)(C1:Src prog w i1 p1 n1 g1 S1)(C2:Src prog w i2 p2 n2 g2 S2)
  (k:∀c o,c≠d→h.get? c=some o→h'.get? c=some o):GSt h' z TI TO i1 i2 d S1 S2 i:=by
 obtain⟨zp,ti,⟨a,b,to⟩,s1,s2⟩:=Z
 refine⟨?_,k _ _ (Ne.symm Y.dI) ti,⟨a,b,k _ _ (Ne.symm Y.dO) to⟩,C1.mv _ _ _ s1 (fun o=>k _ o (Ne.symm Y.d1)) (fun o=>k _ o (Ne.symm Y.da)),C2.mv _ _ _ s2 (fun o=>k _ o (Ne.symm Y.d2)) (fun o=>k _ o (Ne.symm Y.db))⟩
 rcases zp with⟨f1,hz⟩|⟨T,oT,fb,hz,hT,n1,n2,n3,n4,n5⟩
 ·exact .inl ⟨f1,k _ _ (Ne.symm Y.dz) hz⟩
 ·exact .inr ⟨T,oT,fb,k _ _ (Ne.symm Y.dz) hz,k _ _ n5 hT,n1,n2,n3,n4,n5⟩
theorem GSt.next {i:Nat}{Q:Option Value→Shared→Prop}(Z:GSt s.heap z TI TO i1 i2 d S1 S2 i)(Y:GAp z TI TO i1 i2 p1 p2 d)(C1:Src prog w i1 p1 n1 g1 S1)(C2:Src prog w i2 p2 n2 g2 S2)
  (hd:d<s.heap.objs.size) (hc:i<n1) (hy:i<n2)
  (hQ:∀(T:Addr) h' tk,GSt h' z TI TO i1 i2 d S1 S2 (i+1)→IsPair h' T (g1 i) (g2 i)→(∀c o,c≠z→c≠TO→c≠i1→c≠i2→s.heap.get? c=some o→h'.get? c=some o)→h'.objs.size=s.heap.objs.size+1→Q (some (.ref T)) {s with heap:=h',toks:=tk}) :
  wpAny (model prog w) A (pyNext (.ref z)) Q E s:=by
 obtain⟨zp,ti,⟨a,b,to⟩,s1,s2⟩:=Z
 have D:=Y.D
 obtain⟨⟨o1,e1⟩,_⟩:=C1.li _ _ s1
 obtain⟨⟨o2,e2⟩,_⟩:=C2.li _ _ s2
 have lt:∀{c:Addr}{o:Obj},s.heap.get? c=some o→s.heap.objs.size≠c:=fun e=>Nat.ne_of_gt (Heap.lt_size e)
 have Y1:=C1.yl A.in1 i hc
 have Y2:=C2.yl A.in1 i hy
 rcases zp with⟨f1,hz⟩|⟨T,oT,fb,hz,hT,n1,n2,n3,n4,n5⟩
 ·have hTy:s.TypeIs (.ref z) "zip" := ⟨_,hz,rfl⟩
  unfold pyNext
  refine wpAny_bind (wpAny_attempt (wpAny_callSpecial?_slot (name:=Str.ofString "__next__") hTy F.slot_zip_next
   (wpAny_call_entry F.slot_zip_next hTy F.entry_zip_next (next_item D hz ti to Y1 Y2 ?_ ?_ ?_ ?_ ?_) (F.args_zip_next_1 _))))
  ·exact fun h' k=>C1.mv _ _ _ s1 (fun o=>k _ o D.i1z) (fun o=>k _ o Y.az)
  ·exact fun h' k=>C2.mv _ _ _ s2 (fun o=>k _ o D.i2z D.TOi2.symm D.i12.symm) (fun o=>k _ o Y.bz Y.bO Y.b1)
  ·exact fun h h' q k=>C1.mv _ _ _ q (fun o=>k _ o D.i1z D.TOi1.symm D.i12) (fun o=>k _ o Y.az Y.aO Y.a2)
  ·exact fun h h' q k=>C2.mv _ _ _ q (fun o=>k _ o D.i2z D.TOi2.symm) (fun o=>k _ o Y.bz Y.bO)
  ·rintro v1 v2 h' tk rfl rfl z' to' q1 q2 hp hsz k
   refine wpAny_pure (hQ _ h' tk ⟨.inr ⟨_,_,false,z',hp,lt hz,lt to,lt e1,lt e2,Nat.ne_of_gt hd⟩,k _ _ D.TIz D.TITO D.TIi1 D.TIi2 ti,⟨_,_,to'⟩,q1,q2⟩ hp k hsz)
 ·have hTy:s.TypeIs (.ref z) "zip" := ⟨_,hz,rfl⟩
  unfold pyNext
  refine wpAny_bind (wpAny_attempt (wpAny_callSpecial?_slot (name:=Str.ofString "__next__") hTy F.slot_zip_next
   (wpAny_call_entry F.slot_zip_next hTy F.entry_zip_next (zcN D hz ti hT Y1 Y2 ?_ ?_ ?_ ?_ ?_) (F.args_zip_next_1 _))))
  ·exact fun h' k=>C1.mv _ _ _ s1 (fun o=>k _ o D.i1z) (fun o=>k _ o Y.az)
  ·exact fun h' k=>C2.mv _ _ _ s2 (fun o=>k _ o D.i2z D.i12.symm) (fun o=>k _ o Y.bz Y.b1)
  ·exact fun h h' q k=>C1.mv _ _ _ q (fun o=>k _ o D.i12) (fun o=>k _ o Y.a2)
  ·exact fun h h' q k=>C2.mv _ _ _ q (fun o=>k _ o) (fun o=>k _ o)
  ·rintro v1 v2 h' tk rfl rfl z' q1 q2 hp hsz k
   exact wpAny_pure (hQ _ h' tk ⟨.inr ⟨T,oT,true,z',k _ _ n1 n3 n4 hT,n1,n2,n3,n4,n5⟩,k _ _ D.TIz D.TIi1 D.TIi2 ti,⟨_,_,k _ _ D.TOz D.TOi1 D.TOi2 to⟩,q1,q2⟩ hp (fun c o c1 _ c3 c4 e=>k c o c1 c3 c4 e) hsz)
theorem GSt.done {i:Nat}{Q:Option Value→Shared→Prop}(hh:A.handled=none)(Z:GSt s.heap z TI TO i1 i2 d S1 S2 i)(Y:GAp z TI TO i1 i2 p1 p2 d)(C1:Src prog w i1 p1 n1 g1 S1)(C2:Src prog w i2 p2 n2 g2 S2)
  (hend:min n1 n2≤i)
  (hQ:∀h' tk,(∀c o,c≠z→c≠TO→c≠i1→c≠i2→s.heap.get? c=some o→h'.get? c=some o)→Q none {s with heap:=h',toks:=tk}) :
  wpAny (model prog w) A (pyNext (.ref z)) Q E s:=by
 obtain⟨zp,ti,⟨a,b,to⟩,s1,s2⟩:=Z
 have D:=Y.D
 have hend':Ends prog w A.in1 i1 (S1 i)∨(Yields prog w A.in1 i1 (S1 i) (fun _=>True) (fun _=>True)∧Ends prog w A.in1 i2 (S2 i)):=by
  rcases Nat.lt_or_ge i n1 with h|h
  ·exact .inr ⟨fun s Q E g hQ=>C1.yl A.in1 i h s Q E g fun v h' tk _ _ sb=>hQ v h' tk trivial trivial sb,C2.en A.in1 i hh (by omega)⟩
  ·exact .inl (C1.en A.in1 i hh h)
 rcases zp with⟨f1,hz⟩|⟨T,oT,fb,hz,hT,n1,n2,n3,n4,n5⟩
 ·have hTy:s.TypeIs (.ref z) "zip" := ⟨_,hz,rfl⟩
  unfold pyNext
  refine wpAny_bind (wpAny_attempt (wpAny_callSpecial?_slot (name:=Str.ofString "__next__") hTy F.slot_zip_next
   (wpAny_call_entry F.slot_zip_next hTy F.entry_zip_next (next_end D hz ti to hend' ?_ ?_ ?_) (F.args_zip_next_1 _))))
  ·exact fun h' k=>C1.mv _ _ _ s1 (fun o=>k _ o D.i1z) (fun o=>k _ o Y.az)
  ·exact fun h' k=>C2.mv _ _ _ s2 (fun o=>k _ o D.i2z D.TOi2.symm D.i12.symm) (fun o=>k _ o Y.bz Y.bO Y.b1)
  ·intro h' tk e k he
   obtain⟨o,ho,hc⟩:=he
   refine wpAny_bind (wpAny_isInstance (T := "StopIteration") (b:=true) ⟨o,ho,hc⟩ isSubtype_stop ?_)
   exact wpAny_pure (hQ _ _ k)
 ·have hTy:s.TypeIs (.ref z) "zip" := ⟨_,hz,rfl⟩
  unfold pyNext
  refine wpAny_bind (wpAny_attempt (wpAny_callSpecial?_slot (name:=Str.ofString "__next__") hTy F.slot_zip_next
   (wpAny_call_entry F.slot_zip_next hTy F.entry_zip_next (zif D hz ti hT hend' ?_ ?_ ?_) (F.args_zip_next_1 _))))
  ·exact fun h' k=>C1.mv _ _ _ s1 (fun o=>k _ o D.i1z) (fun o=>k _ o Y.az)
  ·exact fun h' k=>C2.mv _ _ _ s2 (fun o=>k _ o D.i2z D.i12.symm) (fun o=>k _ o Y.bz Y.b1)
  ·intro h' tk e k he
   obtain⟨o,ho,hc⟩:=he
   refine wpAny_bind (wpAny_isInstance (T := "StopIteration") (b:=true) ⟨o,ho,hc⟩ isSubtype_stop ?_)
   exact wpAny_pure (hQ _ _ fun c o c1 _ c3 c4 e=>k c o c1 c3 c4 e)
end
section
variable {prog:Program}{w:World}{K:Type} [DecidableEq K]{knd:KeyKind prog w K}{A:Around}{R:Result→Shared→Prop}{z TI TO i1 i2 p1 p2 d:Addr}{n1 n2:Nat}{g1 g2:Nat→Value}{S1 S2:Nat→Heap→Prop}
theorem zfN (hh:A.handled=none)(Y:GAp z TI TO i1 i2 p1 p2 d)(C1:Src prog w i1 p1 n1 g1 S1)(C2:Src prog w i2 p2 n2 g2 S2)(f:Nat→K)(hk:∀i,i<min n1 n2→knd.is (f i) (g1 i)=true)(hsm:n1≤1000) :
  ∀ (n i:Nat) (s:Shared) (kvs:List (K×Value)) (q:Int) (tq:Tok),min n1 n2 - i=n→i≤min n1 n2→GSt s.heap z TI TO i1 i2 d S1 S2 i→s.heap.DictOf knd d kvs→kvs.length≤i →
   (∀h' tk,h'.DictOf knd d (((List.range (min n1 n2)).drop i).foldl (fun m j=>stored m (f j) (g2 j)) kvs)→(∀c o,c≠z→c≠TO→c≠i1→c≠i2→c≠d→s.heap.get? c=some o→h'.get? c=some o) →
    R (.ok (.ret .none)) {s with heap:=h',toks:=tk}) →
   codeAny (model prog w) A (.builtin "dict.update.loop" ⟨[.ref d,.ref z,.int q tq,.none],[]⟩) R s:=by
 intro n
 induction n with
 | zero =>
  intro i s kvs q tq hn hi Z hm hl hR
  refine codeAny_builtin zbR ?_
  rw[Around.under_plainId jb _]
  show wpAny _ A.in1 (pyNext (.ref z) >>= _) _ _ s
  refine wpAny_bind (Z.done hh Y C1 C2 (by omega) fun h' tk k=>?_)
  refine wpAny_bind (m:=Builtin.Dict.addKeywords d []) (wpAny_pure (wpAny_pure ?_))
  have e:(List.range (min n1 n2)).drop i=[]:=List.drop_of_length_le (by rw[List.length_range];omega)
  rw[e] at hR
  refine hR h' tk ?_ fun c o c1 c2 c3 c4 _ e=>k c o c1 c2 c3 c4 e
  obtain⟨o,ho,r⟩:=Heap.dictOf_iff.mp hm
  exact Heap.dictOf_iff.mpr ⟨o,k _ _ Y.dz Y.dO Y.d1 Y.d2 ho,r⟩
 | succ n ih =>
  intro i s kvs q tq hn hi Z hm hl hR
  refine codeAny_builtin zbR ?_
  rw[Around.under_plainId jb _]
  show wpAny _ A.in1 (pyNext (.ref z) >>= _) _ _ s
  have hd:d<s.heap.objs.size:=by obtain⟨o,ho,_⟩:=Heap.dictOf_iff.mp hm;exact Heap.lt_size ho
  refine wpAny_bind (Z.next Y C1 C2 hd (by omega) (by omega) fun T h' tk Z' hp k hsz=>?_)
  dsimp only
  have hT:(⟨h',s.gens,s.drawn,tk,s.os⟩:Shared).TypeIs (.ref T) "tuple" := ⟨_,hp,rfl⟩
  refine wpAny_bind (wpAny_holding (wpAny_bind (wpAny_tryCatch ?_)))
  unfold Builtin.Dict.pairItems
  refine wpAny_bind (wpAny_typeOf hT ?_)
  rw[if_pos (by decide)]
  refine wpAny_bind (wpAny_seqItems hp rfl (wpAny_pure ?_))
  show wpAny _ A.in1 (holding [g1 i,g2 i] (dictSet d (g1 i) (g2 i))) _ _ _
  have hm':h'.DictOf knd d kvs:=by
   obtain⟨o,ho,r⟩:=Heap.dictOf_iff.mp hm
   exact Heap.dictOf_iff.mpr ⟨o,k _ _ Y.dz Y.dO Y.d1 Y.d2 ho,r⟩
  refine wpAny_holding (wpAny_dictSet_pairs (hk i (by omega)) hm' (fun h'' hm'' sb=>?_) (by rw[sizeLine_eq];omega))
  refine wpAny_pure ⟨plainId_quiet jb _,?_⟩
  have hl2:(stored kvs (f i) (g2 i)).length≤i+1:=by
   have:=stored_length_le kvs (f i) (g2 i)
   omega
  refine ih (i+1) _ _ _ _ (by omega) (by omega) (Z'.dict Y C1 C2 fun c o hc e=>sb.extBut _ _ hc e) hm'' hl2 fun h3 tk3 hm3 k3=>?_
  have e:(List.range (min n1 n2)).drop i=i::(List.range (min n1 n2)).drop (i+1):=by
   rw[List.drop_eq_getElem_cons (by rw[List.length_range];omega)]
   simp
  rw[e,List.foldl_cons] at hR
  exact hR h3 tk3 hm3 fun c o c1 c2 c3 c4 c5 e=>k3 c o c1 c2 c3 c4 c5 (sb.extBut _ _ c5 (k c o c1 c2 c3 c4 e))
end
section
variable {prog:Program}{w:World}{K:Type} [DecidableEq K]{knd:KeyKind prog w K}{A:Around}{E:Value→Shared→Prop}{s:Shared}{z TI TO i1 i2 p1 p2:Addr}{n1 n2:Nat}{g1 g2:Nat→Value}{S1 S2:Nat→Heap→Prop}
theorem call_dict_zipG {Q:Value→Shared→Prop}(hh:A.handled=none)(D:Apart z TI TO i1 i2)(az:p1≠z)(aO:p1≠TO)(a2:p1≠i2)(bz:p2≠z)(bO:p2≠TO)(b1:p2≠i1)
  (C1:Src prog w i1 p1 n1 g1 S1) (C2:Src prog w i2 p2 n2 g2 S2) (f:Nat→K) (hk:∀i,i<min n1 n2→knd.is (f i) (g1 i)=true) (hsm:n1≤1000)
  (hz:IsZipF s.heap z TI TO .none (.bool false)) (hTI:IsPair s.heap TI (.ref i1) (.ref i2)) (hTO:IsPair s.heap TO .none .none) (s1:S1 0 s.heap) (s2:S2 0 s.heap)
  (h:∀h' tk,h'.DictOf knd s.heap.objs.size ((List.range (min n1 n2)).foldl (fun m j=>stored m (f j) (g2 j)) [])→(∀c o,c≠z→c≠TO→c≠i1→c≠i2→s.heap.get? c=some o→h'.get? c=some o) →
   Q (.ref s.heap.objs.size) {s with heap:=h',toks:=tk}) :
  wpAny (model prog w) A (call (.type "dict") [.ref z]) Q E s:=by
 refine callType_codes (Q₁:=fun obj s₁=>obj=.ref s.heap.objs.size∧s₁={s with heap:=s.heap.push {cls:=.type "dict", data:=.dict #[]} }) F.kt_called_dict (F.kt_typeCall_dict_1 _) F.entry_dict_init (kt_code_dict_new _ ⟨rfl,rfl⟩) ?_
 rintro obj s₁ ⟨rfl,rfl⟩
 have hnew:(s.heap.push {cls:=.type "dict", data:=.dict #[]}).DictOf knd s.heap.objs.size []:=Heap.DictOf.new s.heap
 have up:∀c o,s.heap.get? c=some o→(s.heap.push {cls:=.type "dict", data:=.dict #[]}).get? c=some o:=fun c o e=>Heap.get?_push_of_some _ e
 have hz':=up _ _ hz
 have hzT:({s with heap:=s.heap.push {cls:=.type "dict", data:=.dict #[]} }:Shared).TypeIs (.ref z) "zip" := ⟨_,hz',rfl⟩
 have lt:∀{c:Addr}{o:Obj},s.heap.get? c=some o→s.heap.objs.size≠c:=fun e=>Nat.ne_of_gt (Heap.lt_size e)
 obtain⟨⟨o1,e1⟩,q1,f1⟩:=C1.li _ _ s1
 obtain⟨⟨o2,e2⟩,q2,f2⟩:=C2.li _ _ s2
 have Y:GAp z TI TO i1 i2 p1 p2 s.heap.objs.size:=⟨D,az,aO,a2,bz,bO,b1,lt hz,lt hTI,lt hTO,lt e1,lt e2,lt f1,lt f2⟩
 refine⟨hnew.typeIs,F.args_dict_init_2 _ _,?_⟩
 unfold Builtin.«dict.__init__»
 refine wpAny_bind ?_
 unfold Builtin.Dict.selfAndRest
 refine wpAny_bind (wpAny_notOrdered_dict hnew.typeIs ?_)
 show wpAny _ _ (pure (s.heap.objs.size,[Value.ref z])) _ _ _
 refine wpAny_pure ?_
 show wpAny _ _ (Builtin.Dict.updateFrom "dict.__init__" s.heap.objs.size (.ref z) [] .none) _ _ _
 unfold Builtin.Dict.updateFrom
 refine wpAny_bind (wpAny_typeOf hzT ?_)
 rw[if_pos (by decide)]
 refine wpAny_bind (zjD hz' hh fun h4 tk4 k4=>?_)
 simp only[Option.isNone_none,if_true]
 refine wpAny_bind (wpAny_rule ?_)
 have kk:∀c o,s.heap.get? c=some o→h4.get? c=some o:=fun c o e=>k4 _ _ (up _ _ e)
 have Z:GSt h4 z TI TO i1 i2 s.heap.objs.size S1 S2 0:=⟨.inl ⟨false,k4 _ _ hz'⟩,kk _ _ hTI,⟨_,_,kk _ _ hTO⟩,C1.mv _ _ _ s1 (fun o=>kk _ o) (fun o=>kk _ o),C2.mv _ _ _ s2 (fun o=>kk _ o) (fun o=>kk _ o)⟩
 have hm:h4.DictOf knd s.heap.objs.size []:=by
  obtain⟨o,ho,r⟩:=Heap.dictOf_iff.mp hnew
  exact Heap.dictOf_iff.mpr ⟨o,k4 _ _ ho,r⟩
 refine wpAny_bind (wpAny_pyIter_zip (k4 _ _ hz') ?_)
 refine wpAny_pure ⟨plainId_quiet jb _,?_⟩
 refine zfN (knd:=knd) (A:=A.in1) hh Y C1 C2 f hk hsm _ 0 _ [] _ _ rfl (Nat.zero_le _) Z hm (Nat.le_refl _) fun h5 tk5 hm5 k5=>?_
 exact⟨rfl,h h5 tk5 (by simpa using hm5) fun c o c1 c2 c3 c4 e=>k5 c o c1 c2 c3 c4 (fun q=>lt e q.symm) (kk _ _ e)⟩
end
section
variable {prog:Program}{w:World}{A:Around}{E:Value→Shared→Prop}{s:Shared}
abbrev lIter (t:Addr):Obj:={cls:=.type "list_iterator", data:=.fields #[.ref t,.int 0 0]}
def Itb (l:Addr)(o:Obj)(G:Heap→Prop):Prop:=∀(prog:Program) (w:World) (A:Around) (s:Shared) (Q:Value→Shared→Prop) (E:Value→Shared→Prop),G s.heap→Q (.ref s.heap.objs.size) {s with heap:=s.heap.push o}→wpAny (model prog w) A (pyIter (.ref l)) Q E s
theorem itb_tup (l:Addr)(xs:Array Value):Itb l (tIter l) (fun h=>h.IsTuple l xs):=fun _ _ _ _ _ _ g q=>wpAny_pyIter_tuple g q
theorem itb_lst (l:Addr)(xs:Array Value):Itb l (lIter l) (fun h=>h.IsList l xs):=fun _ _ _ _ _ _ g q=>wpAny_pyIter_list g q
theorem zhy {l1 l2:Addr}{o1 o2:Obj}{G1 G2:Heap→Prop}(b1:Itb l1 o1 G1)(b2:Itb l2 o2 G2)(up:∀h,G2 h→G2 (h.push o1)) :
  Meets (Builtin.«zip.__new__» ⟨[.type "zip", .ref l1,.ref l2],[]⟩) (fun _ R s=>G1 s.heap∧G2 s.heap ∧
   R (.ok (.ret (.ref (zH4 s.heap o1 o2).objs.size))) {s with heap:=zH5 s.heap o1 o2}) :=
 .of_wp fun prog w A R s h=>by
  obtain⟨hl1,hl2,h⟩:=h
  have z3:(zH3 s.heap o1 o2).objs.size=(zH2 s.heap o1 o2).objs.size+1:=Heap.size_push ..
  have z4:(zH4 s.heap o1 o2).objs.size=(zH2 s.heap o1 o2).objs.size+2:=by rw[Heap.size_push,z3]
  refine meets_st_aux (h1:=s.heap.push o1) (h2:=zH2 s.heap o1 o2) (i1:=s.heap.objs.size) (i2:=(s.heap.push o1).objs.size)
   (fun Q E q=>b1 prog w A.in1 s Q E hl1 q) (fun Q E q=>b2 prog w A.in1 {s with heap:=s.heap.push o1} Q E (up _ hl2) q) ⟨_,rfl,?_⟩
  rw[← z4,← z3]
  exact h
theorem call_zipG {l1 l2:Addr}{o1 o2:Obj}{G1 G2:Heap→Prop}{Q:Value→Shared→Prop}(f1:o1.isFreed=false)(f2:o2.isFreed=false)(b1:Itb l1 o1 G1)(b2:Itb l2 o2 G2)(up:∀h,G2 h→G2 (h.push o1))(hl1:G1 s.heap)(hl2:G2 s.heap)
  (h:∀h',Made5 s.heap h' o1 o2→Q (.ref (s.heap.objs.size+4)) {s with heap:=h'}) :
  wpAny (model prog w) A (call (.type "zip") [.ref l1,.ref l2]) Q E s:=by
 refine callType_new F.called_zip (by decide) (F.typeCall_zip_2 _ _) (F.newCall_zip_2 _ _) (fun obj=>F.args_object_init_3 obj _ _) F.entry_zip_new
  (zhy b1 b2 up) ⟨hl1,hl2,?_⟩
 obtain⟨m,z4⟩:=made5 s.heap o1 o2 f1 f2
 show _∧_
 rw[z4]
 exact⟨⟨_,m.1,rfl⟩,h _ m⟩
end
end Zp
set_option maxHeartbeats 1000000
namespace L2
open PySem PySem.Spec PyProof.Rows
def TxtOk (x:Str):Prop:=PyData.strOk x=true∧x.length≤1000000
mutual
inductive Is (K:PySem.W.Frag)(H:Hp):V→PyData→Prop
 | non:Is K H .non .none
 | bl (b:Bool):Is K H (.bl b) (.bool b)
 | int (i:Int):Is K H (.int i) (.int i)
 | str (x:Str) (ok:TxtOk x):Is K H (.str x) (.str x)
 | lst {a:Addr}{xs:List V}{ds:List PyData}:SqL K H a xs→Iss K H xs ds→Is K H (.ref a) (.list ds)
 | tup {a:Addr}{xs:List V}{ds:List PyData}:SqT K H a xs→Iss K H xs ds→Is K H (.ref a) (.tuple ds)
inductive Iss (K:PySem.W.Frag)(H:Hp):List V→List PyData→Prop
 | nil:Iss K H [] []
 | cons {v:V}{d:PyData}{vs:List V}{ds:List PyData}:Is K H v d→Iss K H vs ds→Iss K H (v::vs) (d::ds)
end
theorem Same.seqT {K:PySem.W.Frag}{H H':Hp}{a:Addr}{xs:List V}(e:Same H H')(h:SqT K H a xs):SqT K H' a xs:=by
 rcases h with(h|⟨o,h⟩)|h
 ·exact .inl (.inl (e _ _ h))
 ·exact .inl (.inr ⟨o,e _ _ h⟩)
 ·exact .inr h
section
variable {K:PySem.W.Frag}{H H':Hp}
theorem Is.mono_both (e:Same H H'):(∀{v:V}{d:PyData},Is K H v d→Is K H' v d)∧(∀{vs:List V}{ds:List PyData},Iss K H vs ds→Iss K H' vs ds):=by
 refine⟨fun {v d} h=>?_,fun {vs ds} h=>?_⟩
 ·exact Is.rec (motive_1:=fun v d _=>Is K H' v d) (motive_2:=fun vs ds _=>Iss K H' vs ds) .non .bl .int .str (fun q _ ih=>.lst (e.seq q) ih) (fun q _ ih=>.tup (e.seqT q) ih) .nil (fun _ _ a b=>.cons a b) h
 ·exact Iss.rec (motive_1:=fun v d _=>Is K H' v d) (motive_2:=fun vs ds _=>Iss K H' vs ds) .non .bl .int .str (fun q _ ih=>.lst (e.seq q) ih) (fun q _ ih=>.tup (e.seqT q) ih) .nil (fun _ _ a b=>.cons a b) h
theorem Is.mono {v:V}{d:PyData}(h:Is K H v d)(e:Same H H'):Is K H' v d:=(Is.mono_both e).1 h
theorem Iss.mono {vs:List V}{ds:List PyData}(h:Iss K H vs ds)(e:Same H H'):Iss K H' vs ds:=(Is.mono_both e).2 h
theorem Iss.length:∀{vs:List V}{ds:List PyData},Iss K H vs ds→vs.length=ds.length
 | _,_,.nil=>rfl
 | _,_,.cons _ r=>by simp[r.length]
theorem Iss.append:∀{vs ws:List V}{ds es:List PyData},Iss K H vs ds→Iss K H ws es→Iss K H (vs++ws) (ds++es)
 | _,_,_,_,.nil,s=>s
 | _,_,_,_,.cons r t,s=>.cons r (Iss.append t s)
theorem Iss.get:∀{vs:List V}{ds:List PyData}{i:Nat}{v:V},Iss K H vs ds→vs[i]? = some v→∃d,ds[i]? = some d∧Is K H v d
 | _,_,_,_,.nil,e=>by simp at e
 | _,_,0,_,.cons r _,e=>by simp at e;subst e;exact⟨_,rfl,r⟩
 | _,_,i+1,v,.cons _ t,e=>by
  obtain⟨d,h1,h2⟩:=Iss.get (i:=i) (v:=v) t (by simpa using e)
  exact⟨d,by simpa using h1,h2⟩
theorem Iss.take:∀{vs:List V}{ds:List PyData} (n:Nat),Iss K H vs ds→Iss K H (vs.take n) (ds.take n)
 | _,_,0,_=>.nil
 | _,_,_+1,.nil=>.nil
 | _,_,n+1,.cons r t=>.cons r (Iss.take n t)
theorem Iss.drop:∀{vs:List V}{ds:List PyData} (n:Nat),Iss K H vs ds→Iss K H (vs.drop n) (ds.drop n)
 | _,_,0,r=>r
 | _,_,_+1,.nil=>.nil
 | _,_,n+1,.cons _ t=>Iss.drop n t
theorem Is.can_both:(∀{v:V}{d:PyData},Is K H v d→d.canLay0=true)∧(∀{vs:List V}{ds:List PyData},Iss K H vs ds→PyData.canLayAll0 ds=true):=by
 have hs:∀(x:Str),TxtOk x→(PyData.str x).canLay0=true:=fun x h=>h.1
 refine⟨fun {v d} h=>?_,fun {vs ds} h=>?_⟩
 ·exact Is.rec (motive_1:=fun v d _=>d.canLay0=true) (motive_2:=fun vs ds _=>PyData.canLayAll0 ds=true) rfl (fun _=>rfl) (fun _=>rfl) hs (fun _ _ ih=>ih) (fun _ _ ih=>ih) rfl (fun _ _ a b=>by simp[PyData.canLayAll0,a,b]) h
 ·exact Iss.rec (motive_1:=fun v d _=>d.canLay0=true) (motive_2:=fun vs ds _=>PyData.canLayAll0 ds=true) rfl (fun _=>rfl) (fun _=>rfl) hs (fun _ _ ih=>ih) (fun _ _ ih=>ih) rfl (fun _ _ a b=>by simp[PyData.canLayAll0,a,b]) h
theorem Is.can {v:V}{d:PyData}(h:Is K H v d):d.canLay0=true:=Is.can_both.1 h
end
section
variable {X:Cx}{pins:List (Addr×Obj)}{σ:St}{H:Hp}{s:Shared}
theorem Inv.reads_both (I:Inv X pins σ H s):(∀{v:V}{d:PyData},Is X.K H v d→∀{u:Value},RelV v u→∃as,Reads s.heap u d as)∧(∀{vs:List V}{ds:List PyData},Iss X.K H vs ds→∀{us:List Value},Vals vs us→∃as,ReadsAll s.heap us ds as):=by
 have h1:∀{u:Value},RelV .non u→∃as,Reads s.heap u .none as:=fun {u} r=>by cases r;exact⟨_,.none⟩
 have h2:∀(b:Bool) {u:Value},RelV (.bl b) u→∃as,Reads s.heap u (.bool b) as:=fun b {u} r=>by cases r;exact⟨_,.bool b⟩
 have h3:∀(i:Int) {u:Value},RelV (.int i) u→∃as,Reads s.heap u (.int i) as:=fun i {u} r=>by obtain⟨t,rfl⟩:=r;exact⟨_,.int i t⟩
 have h4:∀(x:Str),TxtOk x→∀{u:Value},RelV (.str x) u→∃as,Reads s.heap u (.str x) as:=fun x _ {u} r=>by obtain⟨t,rfl⟩:=r;exact⟨_,.str x t⟩
 have h5:∀{a:Addr}{xs:List V}{ds:List PyData} (_:SqL X.K H a xs) (_:Iss X.K H xs ds),(∀{us:List Value},Vals xs us→∃as,ReadsAll s.heap us ds as)→∀{u:Value},RelV (.ref a) u→∃as,Reads s.heap u (.list ds) as:=by
  intro a xs ds q _ ih u r
  cases r
  obtain⟨its,rv,⟨o,n,e,hc,_,hd⟩,_⟩:=I.list q
  obtain⟨as,ra⟩:=ih rv
  exact⟨_,.list e hc hd (by simpa using ra)⟩
 have h6:∀{a:Addr}{xs:List V}{ds:List PyData} (_:SqT X.K H a xs) (_:Iss X.K H xs ds),(∀{us:List Value},Vals xs us→∃as,ReadsAll s.heap us ds as)→∀{u:Value},RelV (.ref a) u→∃as,Reads s.heap u (.tuple ds) as:=by
  intro a xs ds q _ ih u r
  cases r
  obtain⟨its,rv,⟨o,e,hc,n,hd⟩,_⟩:=I.tuple q
  obtain⟨as,ra⟩:=ih rv
  exact⟨_,.tuple e hc hd (by simpa using ra)⟩
 have h7:∀{us:List Value},Vals [] us→∃as,ReadsAll s.heap us [] as:=fun {us} r=>by cases r;exact⟨_,.nil⟩
 have h8:∀{v:V}{d:PyData}{vs:List V}{ds:List PyData} (_:Is X.K H v d) (_:Iss X.K H vs ds),(∀{u:Value},RelV v u→∃as,Reads s.heap u d as)→(∀{us:List Value},Vals vs us→∃as,ReadsAll s.heap us ds as)→∀{us:List Value},Vals (v::vs) us→∃as,ReadsAll s.heap us (d::ds) as:=by
  intro v d vs ds _ _ a b us r
  cases r with
  | cons r t =>
   obtain⟨_,ra⟩:=a r
   obtain⟨_,rb⟩:=b t
   exact⟨_,.cons ra rb⟩
 refine⟨fun {v d} h=>?_,fun {vs ds} h=>?_⟩
 ·exact Is.rec (motive_1:=fun v d _=>∀{u:Value},RelV v u→∃as,Reads s.heap u d as) (motive_2:=fun vs ds _=>∀{us:List Value},Vals vs us→∃as,ReadsAll s.heap us ds as) h1 h2 h3 h4 h5 h6 h7 h8 h
 ·exact Iss.rec (motive_1:=fun v d _=>∀{u:Value},RelV v u→∃as,Reads s.heap u d as) (motive_2:=fun vs ds _=>∀{us:List Value},Vals vs us→∃as,ReadsAll s.heap us ds as) h1 h2 h3 h4 h5 h6 h7 h8 h
theorem Inv.reads (I:Inv X pins σ H s){v:V}{d:PyData}{u:Value}(h:Is X.K H v d)(r:RelV v u):∃as,Reads s.heap u d as:=I.reads_both.1 h r
def zm5 (K:PySem.W.Frag):R2:=fun x y H Q=>∃d e,Is K H x d∧Is K H y e∧d.depth≤60∧Q (.bl (PyData.eqv d e)) H
def zmZ (K:PySem.W.Frag):R2:=fun x y H Q=>∃d e,Is K H x d∧Is K H y e∧d.depth≤60∧Q (.bl (!PyData.eqv d e)) H
theorem zah (hu:X.A.units+64<cLine):OpR X (compareOp .Eq) (zm5 X.K):=by
 intro pins s σ H x y v u Q I rx ry h
 obtain⟨d,e,hd,he,hz,q⟩:=h
 obtain⟨_,ra⟩:=I.reads hd rx
 obtain⟨_,rb⟩:=I.reads he ry
 exact SeqAt.rcAt_reads ra rb hd.can he.can (by omega) X.prog X.w X.xe _ (zeo I q rfl)
theorem uM (hu:X.A.units+64<cLine):OpR X (compareOp .NotEq) (zmZ X.K):=by
 intro pins s σ H x y v u Q I rx ry h
 obtain⟨d,e,hd,he,hz,q⟩:=h
 obtain⟨_,ra⟩:=I.reads hd rx
 obtain⟨_,rb⟩:=I.reads he ry
 exact SeqAt.rcNeAt_reads ra rb hd.can he.can (by omega) X.prog X.w X.xe _ (zeo I q rfl)
end
end L2
namespace L2
open PySem PySem.Spec PyProof.Rows
def zan (scope:Scope)(env:Env):List (Str×Addr):=scope.names.foldl (fun cs y=>if y.2 == NameKind.free then(y.1,(env.cells.lookup y.1).getD 0)::cs else cs) []
theorem zcb {scope:Scope}{env:Env}(h:∀y∈scope.names,y.2=.free→∃c,env.cells.lookup y.1=some c):closureFor scope env=pure (zan scope env):=by
 have key:∀(names:List (Str×NameKind)) (cs:List (Str×Addr)),(∀y∈names,y.2=.free→∃c,env.cells.lookup y.1=some c) →
   (forIn names cs (fun(x:Str×NameKind) (r:List (Str×Addr))=>if (x.2 == NameKind.free)=true then(do let a ← cellOf env x.1;pure (ForInStep.yield ((x.1,a)::r)):Sem (ForInStep (List (Str×Addr)))) else pure (ForInStep.yield r))) =
    pure (names.foldl (fun cs y=>if y.2 == NameKind.free then(y.1,(env.cells.lookup y.1).getD 0)::cs else cs) cs):=by
  intro names
  induction names with
  | nil=>intro cs _;rfl
  | cons y r ih =>
   intro cs hy
   have hr:∀z∈r,z.2=.free→∃c,env.cells.lookup z.1=some c:=fun z hz=>hy z (List.mem_cons_of_mem _ hz)
   rw[List.forIn_cons,List.foldl_cons]
   cases hk:(y.2 == NameKind.free) with
   | false =>
    simp only[Bool.false_eq_true,if_false]
    exact ih cs hr
   | true =>
    have e:y.2=.free:=by simpa using hk
    obtain⟨c,hc⟩:=hy y List.mem_cons_self e
    have hco:cellOf env y.1=pure c:=by unfold cellOf;rw[hc]
    simp only[if_true,hco,hc,Option.getD_some]
    exact ih _ hr
 unfold closureFor zan
 have:=key scope.names [] h
 first|exact(congrArg (· >>= fun r=>pure r) this).trans rfl|exact this|simpa using this
theorem zbI {scope:Scope}{env:Env}(h:∀y∈scope.names,y.2=.free→∃c,env.cells.lookup y.1=some c):∀p∈zan scope env,env.cells.lookup p.1=some p.2∧(p.1,NameKind.free)∈scope.names:=by
 have key:∀(names:List (Str×NameKind)) (cs:List (Str×Addr)),(∀y∈names,y∈scope.names)→(∀p∈cs,env.cells.lookup p.1=some p.2∧(p.1,NameKind.free)∈scope.names) →
   ∀p∈names.foldl (fun cs y=>if y.2 == NameKind.free then(y.1,(env.cells.lookup y.1).getD 0)::cs else cs) cs,env.cells.lookup p.1=some p.2∧(p.1,NameKind.free)∈scope.names:=by
  intro names
  induction names with
  | nil=>intro cs _ hc;exact hc
  | cons y r ih =>
   intro cs hs hc
   rw[List.foldl_cons]
   refine ih _ (fun z hz=>hs z (List.mem_cons_of_mem _ hz)) ?_
   cases hk:(y.2 == NameKind.free) with
   | false=>simp only[Bool.false_eq_true,if_false];exact hc
   | true =>
    have e:y.2=.free:=by simpa using hk
    obtain⟨c,hcc⟩:=h y (hs y List.mem_cons_self) e
    simp only[if_true]
    intro p hp
    rcases List.mem_cons.mp hp with rfl|hp
    ·exact⟨by rw[hcc];rfl,by have:=hs y List.mem_cons_self;rw[← e];exact this⟩
    ·exact hc p hp
 exact key scope.names [] (fun _ h=>h) (fun p hp=>by cases hp)
theorem zcA {l:List (Str×Addr)}{x:Str}(h:∃p∈l,p.1=x):∃c,l.lookup x=some c:=by
 induction l with
 | nil=>obtain⟨p,hp,_⟩:=h;cases hp
 | cons q r ih =>
  rw[List.lookup_cons]
  cases hq:(x == q.1) with
  | true=>exact⟨_,rfl⟩
  | false =>
   obtain⟨p,hp,e⟩:=h
   rcases List.mem_cons.mp hp with rfl|hp
   ·subst e;simp at hq
   ·exact ih ⟨p,hp,e⟩
theorem zbB {scope:Scope}{env:Env}{x:Str}(hx:(x,NameKind.free)∈scope.names):∃c,(zan scope env).lookup x=some c:=by
 refine zcA ?_
 have key:∀(names:List (Str×NameKind)) (cs:List (Str×Addr)),((x,NameKind.free)∈names∨∃p∈cs,p.1=x) →
   ∃p∈names.foldl (fun cs y=>if y.2 == NameKind.free then(y.1,(env.cells.lookup y.1).getD 0)::cs else cs) cs,p.1=x:=by
  intro names
  induction names with
  | nil=>intro cs h;rcases h with h|h;cases h;exact h
  | cons y r ih =>
   intro cs h
   rw[List.foldl_cons]
   refine ih _ ?_
   rcases h with h|⟨p,hp,e⟩
   ·rcases List.mem_cons.mp h with h|h
    ·subst h
     exact .inr ⟨_,List.mem_cons_self,rfl⟩
    ·exact .inl h
   ·refine .inr ⟨p,?_,e⟩
    cases (y.2 == NameKind.free) with
    | true=>exact List.mem_cons_of_mem _ hp
    | false=>exact hp
 exact key scope.names [] (.inl hx)
theorem jd {scope:Scope}{env:Env}{x:Str}:(relabel scope env).names.lookup x=(scope.names.lookup x).map fun k=>if (k == NameKind.free&&env.scope.kind == .function&&env.kindOf x == some .cell) then NameKind.cell else k:=by
 show(scope.names.map _).lookup x=_
 induction scope.names with
 | nil=>rfl
 | cons y r ih =>
  obtain⟨n,k⟩:=y
  rw[List.map_cons,List.lookup_cons]
  cases hx:(x == n) with
  | true =>
   have e:x=n:=by simpa using hx
   subst e
   show List.lookup x ((if (k == NameKind.free&&env.scope.kind == .function&&env.kindOf x == some .cell)=true then(x,NameKind.cell) else(x,k))::_)=_
   split
   ·rename_i h
    simp only[List.lookup_cons,hx,Option.map_some]
    rw[if_pos h]
   ·rename_i h
    simp only[List.lookup_cons,hx,Option.map_some]
    rw[if_neg h]
  | false =>
   show List.lookup x ((if (k == NameKind.free&&env.scope.kind == .function&&env.kindOf n == some .cell)=true then(n,NameKind.cell) else(n,k))::_)=_
   split <;>simp only[List.lookup_cons,hx] <;>exact ih
structure CompOk (X:Cx)(scope:Scope)(caps:List Nat):Prop where
 kind:scope.kind=.function
 ncell:∀y∈scope.names,y.2=.cell→scope.names.lookup y.1=some .cell
 locs:∀y∈scope.names,y.2=.local→scope.names.lookup y.1=some .local
 free:∀y∈scope.names,y.2=.free→X.env.kindOf y.1=some .cell∨X.env.kindOf y.1=some .free
 caps:∀i∈caps,∃y,X.N[i]? = some y∧scope.names.lookup y=some .free
def zmr (X:Cx)(own:List Str)(caps:List Nat):List Str:=own++caps.map fun i=>X.N.getD i Str.empty
def zcD (own:List Str)(caps:List Nat)(σ:St):St:=own.map (fun _=>none)++caps.map fun i=>(σ[i]?).getD none
def zhr (scope:Scope)(C:Addr):List (Str×Addr):=cellsFrom (C+1) scope.names []
def ziE (scope:Scope)(env:Env)(C:Addr):List (Str×Addr):=zhr scope C++zan scope env
theorem jw:∀(names:List (Str×NameKind)) (n:Nat) (acc:List (Str×Addr)),cellsFrom n names acc=cellsFrom n names []++acc:=by
 intro names
 induction names with
 | nil=>intro n acc;rfl
 | cons y r ih =>
  obtain⟨x,k⟩:=y
  intro n acc
  unfold cellsFrom
  split
  ·rw[ih _ ((x,n)::acc),ih _ [(x,n)],List.append_assoc];rfl
  ·exact ih n acc
theorem zb1:∀(names:List (Str×NameKind)) (n:Nat) (x:Str) (c:Addr),(x,c)∈cellsFrom n names []→(x,NameKind.cell)∈names:=by
 intro names
 induction names with
 | nil=>intro n x c h;cases h
 | cons y r ih =>
  obtain⟨z,k⟩:=y
  intro n x c h
  unfold cellsFrom at h
  split at h
  ·rename_i hk
   rw[jw] at h
   rcases List.mem_append.mp h with h|h
   ·exact List.mem_cons_of_mem _ (ih _ _ _ h)
   ·have e:=List.mem_singleton.mp h
    injection e with e1 e2
    subst e1
    have ek:k=.cell:=by simpa using hk
    subst ek
    exact List.mem_cons_self
  ·exact List.mem_cons_of_mem _ (ih _ _ _ h)
theorem zbQ {l r:List (Str×Addr)}{x:Str}{c:Addr}(h:(l++r).lookup x=some c):l.lookup x=some c∨(l.lookup x=none∧r.lookup x=some c):=by
 rw[List.lookup_append] at h
 cases e:l.lookup x with
 | none=>rw[e] at h;exact .inr ⟨rfl,h⟩
 | some d=>rw[e] at h;exact .inl h
theorem zeK {l r:List (Str×Addr)}{x:Str}{c:Addr}(h:l.lookup x=some c):(l++r).lookup x=some c:=by rw[List.lookup_append,h];rfl
theorem zeO {l r:List (Str×Addr)}{x:Str}{c:Addr}(n:l.lookup x=none)(h:r.lookup x=some c):(l++r).lookup x=some c:=by rw[List.lookup_append,n];exact h
def cxC (X:Cx)(pins:List (Addr×Obj))(scope:Scope)(own:List Str)(caps:List Nat)(C:Addr)(ex:List Addr)(s:Shared)(H:Hp):Cx :=
 {X with N:=zmr X own caps,s₀:=s,H₀:=H,env:=compEnvC scope (ziE scope X.env C) C X.env,outer:=X.stack,ex:=ex,fn:=fun x=>scope.names.lookup x == some .cell,pn:=X.pn++pins,xe:=fun _ _=>False}
section
variable {X:Cx}{pins:List (Addr×Obj)}{σ:St}{H:Hp}{s:Shared}{scope:Scope}{own:List Str}{caps:List Nat}
theorem Inv.track {D:Addr}{o:HO} (I:Inv X pins σ H s) (hn:H D=none) (h0:D∈X.ex∨X.s₀.heap.objs.size≤D) (hL:D≠X.env.locals) (hc:∀x c,X.env.cells.lookup x=some c→c≠D) (hp:∀p∈X.pn++pins,p.1≠D)
  (new:ObjOk X.prog X.w (upd H D o) s.heap D o):Inv X pins σ (upd H D o) s:=by
 have ne:∀b u,H b=some u→b≠D:=fun b u e=>yM e hn
 have q := I.step (g':=s.gens) (t':=s.toks) (d':=s.drawn) (ch:=[D]) (h':=s.heap) (H':=upd H D o)
  (fun b hb => by have e:b=D:=by simpa using hb
                  subst e;exact⟨h0,hL,hc,hp⟩)
  (fun b o' _ _ _ e _=>e) (fun b o' _ _ _ e _=>⟨o'.slots,e⟩) (fun b o' hb _ n=>by rw[zU (fun z=>hb (by simp[z]))];exact n) (fun b o' _ e=>⟨o',e⟩)
  (fun b xs e=>by rw[zU (ne b _ e)];exact e) (fun b o' u e=>by rw[zU (ne b _ e)];exact e) (fun b ps e=>⟨#[],by rw[zU (ne b _ e),e];simp⟩) (fun m hm=>hm)
  (fun b u e=>by
   by_cases hb:b=D
   ·subst hb;rw[yg] at e;cases e;exact new
   ·rw[zU hb] at e
    exact(I.hok b u e).stay (fun c v _ q=>q) (fun c q=>by rw[zU (ne c _ q)];exact q) fun c xs q=>by rw[zU (ne c _ q)];exact q) I.bare
 exact q
theorem CompOk.cells (ok:CompOk X scope caps)(I:Inv X pins σ H s):∀y∈scope.names,y.2=.free→∃c,X.env.cells.lookup y.1=some c:=fun y hy e=>I.ok.has y.1 (ok.free y hy e)
theorem Inv.block {h₁:Heap}{D C:Addr}{fp:List Addr}{m:Str→Option Value}{oD:Obj}{t:Nat}(ok:CompOk X scope caps)(I:Inv X pins σ H s)(hf:∀b∈fp,zhZ X pins H b)(hfo:∀b∈fp,∃o,s.heap.get? b=some o∧∀v,o.data≠.cell v)
  (hD:D=s.heap.objs.size) (hC:s.heap.objs.size≤C) (hDC:D≠C) (k:∀b u,s.heap.get? b=some u→h₁.get? b=some u) (hn:h₁.Ns C m) (hoD:h₁.get? D=some oD) (hdD:∀v,oD.data≠.cell v) (cok:CellsOk h₁ (C+1) (zhr scope C)) :
  Inv (cxC X pins scope own caps C fp s H) [(D,oD)] (zcD own caps σ) H {s with heap:=h₁,toks:=t}:=by
 have hcl:=ok.cells I
 have lk:∀x c,(zan scope X.env).lookup x=some c→X.env.cells.lookup x=some c∧(x,NameKind.free)∈scope.names:=fun x c e=>zbI hcl (x,c) (PySem.mem_of_lookup e)
 have lA:∀x c,(ziE scope X.env C).lookup x=some c→(C<c∧h₁.IsCell c none∧(x,c)∈zhr scope C)∨(zan scope X.env).lookup x=some c:=fun x c e=>by
  rcases zbQ e with e|⟨_,e⟩
  ·have m:=PySem.mem_of_lookup e
   exact .inl ⟨(cok.empty x c m).2,(cok.empty x c m).1,m⟩
  ·exact .inr e
 have lkC:∀x c,X.env.cells.lookup x=some c→c<C:=fun x c e=>by
  obtain⟨v,o,ho,_⟩:=I.cell x c e
  exact Nat.lt_of_lt_of_le (Heap.lt_size ho) hC
 have nst:∀b,b≠X.env.locals→b∉X.fs→b∉frs X.stack:=fun b h1 h2 hb=>by
  rcases List.mem_cons.mp (I.stkSub b hb) with e|e
  ·exact h1 e
  ·exact h2 e
 have kinds:∀x,((relabel scope X.env).names.lookup x=some .cell∨(relabel scope X.env).names.lookup x=some .free)→(x,NameKind.free)∈scope.names∨scope.names.lookup x=some .cell:=fun x hx=>by
  rw[jd] at hx
  cases e:scope.names.lookup x with
  | none=>rw[e] at hx;rcases hx with hx|hx <;>cases hx
  | some kd =>
   have hm:=PySem.mem_of_lookup e
   cases kd with
   | free=>exact .inl hm
   | cell=>exact .inr rfl
   | _=>rw[e] at hx;rcases hx with hx|hx <;>simp at hx
 refine⟨⟨I.ok.mod,ok.kind,I.ok.glob,I.ok.blt,hC,?_,?_,?_,I.ok.hd,I.ok.frames,.inl rfl,?_,I.bs,Nat.le_trans I.ok.bsz I.sz,?_,?_,I.stack,I.stkFree⟩,rfl,I.bare,Un.kept k,⟨m,hn,?_⟩,?_,I.hok.fresh hC,?_,?_,I.hok.kept k,?_⟩
 ·intro x y c h1 h2
  rcases lA x c h1 with⟨l1,_,m1⟩|h1 <;>rcases lA y c h2 with⟨l2,_,m2⟩|h2
  ·exact name_of_addr cok.apart m1 m2
  ·exact absurd (lkC y c (lk y c h2).1) (Nat.lt_asymm l1)
  ·exact absurd (lkC x c (lk x c h1).1) (Nat.lt_asymm l2)
  ·exact I.ok.inj x y c (lk x c h1).1 (lk y c h2).1
 ·intro x hx
  show ∃c,(ziE scope X.env C).lookup x=some c
  cases e:(zhr scope C).lookup x with
  | some c=>exact⟨c,zeK e⟩
  | none =>
   rcases kinds x hx with h|h
   ·obtain⟨c,h⟩:=zbB (env:=X.env) h
    exact⟨c,zeO e h⟩
   ·obtain⟨c,h⟩:=zaK (n:=C+1) h
    unfold zhr at e
    rw[h] at e;cases e
 ·intro x c hx e
  have hx:(scope.names.lookup x == some .cell)=true:=hx
  obtain⟨c',h⟩:=zaK (sc:=scope) (n:=C+1) (by simpa using hx)
  have e':=zeK (r:=zan scope X.env) h
  have e2:(ziE scope X.env C).lookup x=some c:=e
  unfold ziE zhr at e2
  rw[e'] at e2
  cases e2
  exact Nat.le_trans hC (Nat.le_trans (Nat.le_succ C) (cok.empty x _ (PySem.mem_of_lookup h)).2)
 ·intro b hb
  obtain⟨o,ho,_⟩:=hfo b hb
  refine⟨Nat.ne_of_lt (Nat.lt_of_lt_of_le (Heap.lt_size ho) hC),fun x c e=>?_⟩
  rcases lA x c e with⟨l,_,_⟩|e
  ·exact Nat.ne_of_gt (Nat.lt_trans (Nat.lt_of_lt_of_le (Heap.lt_size ho) hC) l)
  ·exact(hf b hb).2.2.2.2.1 x c (lk x c e).1
 ·intro b o e hb
  rcases(hf b hb).2.2.2.1 with z|z
  ·exact I.ok.noex b o e z
  ·exact absurd (Nat.lt_of_lt_of_le (Heap.lt_size e) (Nat.le_trans I.ok.bsz z)) (Nat.lt_irrefl _)
 ·exact fun b hb=>nst b (hf b hb).2.1 (hf b hb).2.2.1
 ·intro i x v h1 h2 h3
  have h1':(own++caps.map fun i=>X.N.getD i Str.empty)[i]? = some x:=h1
  unfold zcD at h2
  have hi:own.length≤i:=by
   apply Classical.byContradiction
   intro hlt
   rw[List.getElem?_append_left (by simpa using hlt),List.getElem?_map] at h2
   cases e:own[i]? with
   | none=>rw[e] at h2;cases h2
   | some y=>rw[e] at h2;cases h2
  rw[List.getElem?_append_right (by simpa using hi),List.getElem?_map,List.length_map] at h2
  rw[List.getElem?_append_right hi,List.getElem?_map] at h1'
  cases e:caps[i - own.length]? with
  | none=>rw[e] at h2;cases h2
  | some j =>
   rw[e] at h2 h1'
   have hx:X.N.getD j Str.empty=x:=Option.some.inj h1'
   have hv:(σ[j]?).getD none=some v:=Option.some.inj h2
   obtain⟨y,hy,hfr⟩:=ok.caps j (List.mem_of_getElem? e)
   have exy:x=y:=by rw[← hx,List.getD_eq_getElem?_getD,hy];rfl
   subst exy
   have hs:σ[j]? = some (some v):=by
    cases q:σ[j]? with
    | none=>rw[q] at hv;cases hv
    | some z=>rw[q] at hv;exact congrArg some hv
   have hfm:=PySem.mem_of_lookup hfr
   have hkd:=ok.free _ hfm rfl
   obtain⟨m',hn',hl⟩:=I.loc
   obtain⟨u,r,l⟩:=hl j x v hy hs (by rcases hkd with z|z;exact .inr (.inl z);exact .inr (.inr z))
   refine⟨u,r,.inr ⟨?_,?_⟩⟩
   ·show(relabel scope X.env).names.lookup x=some .cell∨(relabel scope X.env).names.lookup x=some .free
    rw[jd,hfr]
    simp only[Option.map_some]
    split
    ·exact .inl rfl
    ·exact .inr rfl
   ·rcases l with⟨hk,_⟩|⟨_,c,hc,o,ho,hd⟩
    ·rcases hkd with z|z <;>(rw[hk] at z;cases z)
    ·obtain ⟨c',hc'⟩:=zbB (env:=X.env) hfm
     have e1:=(lk x c' hc').1
     rw[hc] at e1
     cases e1
     refine⟨c,zeO ?_ hc',o,k _ _ ho,hd⟩
     cases e3:(zhr scope C).lookup x with
     | none=>rfl
     | some c3 =>
      have h3:=ok.ncell _ (zb1 _ _ _ _ (PySem.mem_of_lookup e3)) rfl
      rw[hfr] at h3;cases h3
 ·intro x c e
  rcases lA x c e with⟨_,h,_⟩|e
  ·exact⟨_,h⟩
  ·obtain⟨v,o,ho,hd⟩:=I.cell x c (lk x c e).1
   exact⟨v,o,k _ _ ho,hd⟩
 ·intro x c e
  rcases lA x c e with⟨l,_,_⟩|e
  ·exact I.hok.fresh (Nat.le_trans hC (Nat.le_of_lt l))
  ·exact I.freeC x c (lk x c e).1
 ·intro p hp
  rcases List.mem_append.mp hp with hp|hp
  ·obtain⟨a1,a2,a3,a4,a5⟩:=I.pin p hp
   exact⟨k _ _ a1,a2,Nat.ne_of_lt (Nat.lt_of_lt_of_le (Heap.lt_size a1) hC),nst _ a3 a4,a5⟩
  ·have e:p=(D,oD):=by simpa using hp
   subst e
   refine⟨hoD,I.hok.fresh (Nat.le_of_eq hD.symm),hDC,?_,hdD⟩
   refine nst D ?_ (I.nofs (Nat.le_of_eq hD.symm))
   exact Nat.ne_of_gt (by rw[hD];exact I.lt)
 ·show(zcD own caps σ).length=(zmr X own caps).length
  simp[zcD,zmr]
end
end L2
namespace L2
open PySem PySem.Spec PyProof.Rows
section
variable {prog:Program}{w:World}{A:Around}{R:Result→Shared→Prop}{s:Shared}
theorem zcG {elt target iter:Expr}{ifs:List Expr}{scope:Scope}{pos:Pos}{it acc:Value}{env:Env}(I:Nat→Shared→Prop)
  (turn : ∀n s,I n s→wpAny (model prog w) A (pyNext it) (fun r s₁=>match r with
   | none=>R (.ok .next) s₁
   | some v=>wpAny (model prog w) A (letOwnedTupleGo target it v) (fun _ s₁'=>wpAny (model prog w) A (assign target env v) (fun _ s₂ =>
     wpAny (model prog w) A (forIn ifs true fun c r=>if r=true then do let ok ← isTrue c env (eval c env);pure (ForInStep.yield ok) else pure (ForInStep.yield r)) (fun ok s₃ =>
      if ok=true then wpAny (model prog w) A (eval elt env) (fun x s₄ =>
       wpAny (model prog w) A (call (.builtin "list.append") [acc,x]) (fun _ s₅=>∃m,m<n∧I m s₅) (fun _ _=>False) s₄) (fun _ _=>False) s₃
      else ∃m,m<n∧I m s₃) (fun _ _=>False) s₂) (fun _ _=>False) s₁') (fun _ _=>False) s₁) (fun _ _=>False) s)
  (n:Nat) (h:I n s) :
  codeAny (model prog w) A (.compLoop (.ListComp elt [⟨target,iter,ifs,0⟩] scope pos) 0 it acc env) R s:=by
 refine codeAny_loop rfl I (fun n s hI=>?_) n h
 show wpAny _ A ((compTurn (.ListComp elt [⟨target,iter,ifs,0⟩] scope pos) 0 it acc env).onRaise (fun x=>do noteFrame x env;theTreesLotGoes x)) _ _ s
 refine wpAny_noted ?_
 rw[compTurn_list]
 refine wpAny_bind (wpAny_standAt (wpAny_bind (wpAny_mono (turn n s hI) (fun r s₁ h₁=>?_) fun _ _ h'=>h'.elim)))
 cases r with
 | none=>exact wpAny_pure h₁
 | some v =>
  refine wpAny_bind (wpAny_mono h₁ (fun _ s₁' h₁'=>?_) fun _ _ h'=>h'.elim)
  refine wpAny_bind (wpAny_mono h₁' (fun _ s₂ h₂=>wpAny_bind (wpAny_mono h₂ (fun ok s₃ h₃=>?_) fun _ _ h'=>h'.elim)) fun _ _ h'=>h'.elim)
  cases ok with
  | false=>exact wpAny_pure ⟨rfl,h₃⟩
  | true =>
   exact wpAny_bind (wpAny_bind (wpAny_mono h₃ (fun x s₄ h₄=>wpAny_bind (wpAny_mono h₄ (fun _ s₅ h₅=>wpAny_pure (wpAny_pure ⟨rfl,h₅⟩)) fun _ _ h'=>h'.elim)) fun _ _ h'=>h'.elim))
end
def PTs (X:Cx)(ifs:List Expr)(t:TT):Prop :=
 ∀ (pins:List (Addr×Obj)) (s:Shared) (σ:St) (H:Hp) (Q:Bool→Hp→Prop),Inv X pins σ H s→t σ H Q →
  wpAny (model X.prog X.w) X.A (forIn ifs true fun c r=>if r=true then do let ok ← isTrue c X.env (eval c X.env);pure (ForInStep.yield ok) else pure (ForInStep.yield r)) (TP X pins σ Q) X.xe s
def Kps (σ σ':St):Prop:=σ'.length=σ.length∧∀(i:Nat) (v:V),σ[i]? = some (some v)→σ'[i]? = some (some v)
def jz (g:TG)(tt:TT)(te:TE)(σ0:St)(F:List V→Hp→Prop)(J:It)(H1:Hp):Prop :=
 ∃ W : Nat→Nat→List V→Hp→Prop,(∃m,W 0 m [] H1)∧∀i m ys H,W i m ys H→ys.length≤sizeLine ∧
  ((J.stop i H∧F ys H)∨(J.go i H∧ys.length<sizeLine∧∃N:List V→Hp→Prop,(∀ys' H',N ys' H'→∃m',m'<m∧W (i+1) m' ys' H') ∧
    ∀x H',J.yld i H x H'→g x σ0 H' fun σ2 H2=>Kps σ0 σ2∧tt σ2 H2 fun b H3=>if b=true then te σ2 H3 fun y H4=>N (ys++[y]) H4 else N ys H3))
def zmf (wi:TI)(g:TG)(tt:TT)(te:TE)(own:List Str)(caps:List Nat):TE:=fun σ H Q=>wi σ H fun J H1=>jz g tt te (zcD own caps σ) (fun ys H'=>∀D,H' D=none→Q (.ref D) (upd H' D (.lst ys))) J H1
section
variable {X:Cx}{pins:List (Addr×Obj)}{σ:St}{H:Hp}{s:Shared}{scope:Scope}{own:List Str}{caps:List Nat}{elt tg iter:Expr}{ifs:List Expr}{wi:TI}{g:TG}{tt:TT}{te:TE}{pos:Pos}
structure CompIn (X:Cx)(scope:Scope)(own:List Str)(caps:List Nat)(tg:Expr)(ifs:List Expr)(elt:Expr)(g:TG)(tt:TT)(te:TE):Prop where
 tgt:∀pins C ex s H,PG (cxC X pins scope own caps C ex s H) tg g
 tst:∀pins C ex s H,PTs (cxC X pins scope own caps C ex s H) ifs tt
 elm:∀pins C ex s H,PE (cxC X pins scope own caps C ex s H) elt te
theorem zd9 {M:Model}{A:Around}{E:Value→Shared→Prop}{s:Shared}{scope:Scope}{g:Addr}{cl:List (Str×Addr)}{q:Str}{env:Env}{Q:Env→Shared→Prop}
  (h:∀h',h'.Ns s.heap.objs.size (fun _=>none)→(∀b o,s.heap.get? b=some o→h'.get? b=some o)→CellsOk h' (s.heap.objs.size+1) (zhr scope s.heap.objs.size) →
   Q (newEnv scope s.heap.objs.size g (zhr scope s.heap.objs.size++cl) q none .none (some env) builtinsNs) {s with heap:=h'}) :
  wpAny M A (newFunctionEnv scope g cl [] q none .none (some env)) Q E s:=by
 simp only[newFunctionEnv,Option.isSome_some,if_true]
 refine wpAny_bind (wpAny_alloc ?_)
 refine wpAny_bind (wpAny_layCells _ (fun name kind cells=>by cases hkc:kind == NameKind.cell <;>simp[hkc]) _ _ _ _ ?_)
 have ok:=cellsFrom_ok scope.names (s.heap.push {cls:=.type "dict", data:=.dict #[]}) (s.heap.objs.size+1) [] ⟨fun _ _ hm=>(nomatch hm),List.Pairwise.nil⟩ (by rw[Heap.size_push];exact Nat.le_refl _)
 rw[Heap.size_push] at ok
 rw[show({s with heap:=s.heap.push {cls:=.type "dict", data:=.dict #[]} }:Shared).heap.objs.size=s.heap.objs.size+1 from Heap.size_push ..]
 rw[jw,List.forIn_nil]
 refine wpAny_bind (wpAny_pure (wpAny_pure ?_))
 exact h _ ((Heap.Ns.new s.heap (.type "dict")).keeps (pushCells_keeps _ _)) (fun b o e=>pushCells_keeps _ _ b o (Heap.get?_push_of_some _ e)) ok
theorem zcK {use:Option (Value→Sem Unit)}{Qv:Value→Shared→Prop}{F:List V→Hp→Prop}(ok:CompOk X scope caps)(hc:X.calm=true)(hi:PI X tg iter wi)(CI:CompIn X scope own caps tg ifs elt g tt te)(I:Inv X pins σ H s)
  (h:wi σ H fun J H1=>jz g tt te (zcD own caps σ) F J H1)
  (fin:∀(D C:Addr) (ys:List V) (H':Hp) (s1:Shared) (m:Str→Option Value),Inv X pins σ (upd H' D (.lst ys)) s1→H' D=none→F ys H'→s1.heap.Ns C m→H' C=none→C≠D→C≠X.env.locals→C∉X.fs→X.s₀.heap.objs.size≤C →
   (∀x c,X.env.cells.lookup x=some c→c≠C)→(∀p∈X.pn++pins,p.1≠C)→compPost (model X.prog X.w) X.A X.xe use Qv (.ref D) C (.ok .next) s1)
  (hs:∀x,foldedSetIterable iter X.env x=pure x:=by intro _;rfl) :
  wpAny (model X.prog X.w) X.A (comprehension (.ListComp elt [⟨tg,iter,ifs,0⟩] scope pos) scope X.env (firstIterPos [⟨tg,iter,ifs,0⟩] pos) (newList []) false (eval iter X.env) use) Qv X.xe s:=by
 refine wpAny_comprehension_free rfl hs (zcb (ok.cells I)) ok.kind ok.locs (thn (hi pins s σ H _ I h) fun v s1 h1=>thn h1 fun itv s2 h2=>?_)
 obtain⟨it,fp,tn,J,H2,e,I2,T,st2,f2,W,⟨m0,w0⟩,turn⟩:=h2
 subst e
 refine wpAny_newObj_type (zd9 (fun h₁ hns₁ hsb₁ cok=>?_))
 dsimp only at hns₁ hsb₁ cok ⊢
 generalize hH2:s2.heap.push {cls:=.type "list", dict:=none,data:=.seq ([]:List Value).toArray}=HH at hns₁ hsb₁ cok ⊢
 have hCs:HH.objs.size=s2.heap.objs.size+1:=by rw[← hH2,Heap.size_push]
 have hDC:s2.heap.objs.size≠HH.objs.size:=by rw[hCs];exact Nat.ne_of_lt (Nat.lt_succ_self _)
 have hC:s2.heap.objs.size≤HH.objs.size:=by rw[hCs];exact Nat.le_succ _
 have old:∀b o,s2.heap.get? b=some o→h₁.get? b=some o:=fun b o e =>
  hsb₁ b o (hH2▸Heap.get?_push_of_some _ e)
 have hoD:h₁.get? s2.heap.objs.size=some {cls:=.type "list", data:=.seq ([]:List Value).toArray}:=hsb₁ _ _ (hH2▸Heap.get?_push_size _ rfl)
 have fo:∀b∈fp,∃o,s2.heap.get? b=some o∧∀v,o.data≠.cell v:=T.obj _ _ st2
 have I4:=Inv.block (own:=own) (t:=s2.toks) ok I2 f2 fo rfl hC hDC old hns₁ hoD (fun v z=>by cases z) cok
 have st4:tn 0 h₁:=T.keep _ _ _ st2 fun b _ o e=>old b o e
 have hDfp:∀b∈fp,b≠s2.heap.objs.size:=fun b hb=>by obtain⟨o,ho,_⟩:=fo b hb;exact Nat.ne_of_lt (Heap.lt_size ho)
 have hCfp:∀b∈fp,b≠HH.objs.size:=fun b hb=>by obtain⟨o,ho,_⟩:=fo b hb;exact Nat.ne_of_lt (Nat.lt_of_lt_of_le (Heap.lt_size ho) hC)
 have pnD:∀p∈X.pn++pins,p.1≠s2.heap.objs.size:=fun p hp=>Nat.ne_of_lt (Heap.lt_size (I2.pin p hp).1)
 have pnC:∀p∈X.pn++pins,p.1≠HH.objs.size:=fun p hp=>Nat.ne_of_lt (Nat.lt_of_lt_of_le (Heap.lt_size (I2.pin p hp).1) hC)
 have clX:∀x c,X.env.cells.lookup x=some c→c<s2.heap.objs.size:=fun x c e=>by obtain⟨v,o,ho,_⟩:=I2.cell x c e;exact Heap.lt_size ho
 have cl:∀x c,(ziE scope X.env HH.objs.size).lookup x=some c→X.env.cells.lookup x=some c∨HH.objs.size<c:=fun x c e=>by
  rcases zbQ e with e|⟨_,e⟩
  ·exact .inr (cok.empty x c (PySem.mem_of_lookup e)).2
  ·exact .inl (zbI (ok.cells I) (x,c) (PySem.mem_of_lookup e)).1
 have YA:(cxC X pins scope own caps HH.objs.size fp s2 H2).env=compEnvC scope (ziE scope X.env HH.objs.size) HH.objs.size X.env:=rfl
 have stat:∀{H':Hp}{oD:Obj},(∀b∈fp,H' b=none)→∀b∈fp,zhZ (cxC X pins scope own caps HH.objs.size fp s2 H2) [(s2.heap.objs.size,oD)] H' b:=fun {H' oD} hn b hb=>by
  refine⟨hn b hb,hCfp b hb,?_,.inl hb,fun x c e=>?_,fun p hp=>?_⟩
  ·intro z
   rcases List.mem_cons.mp (I2.stkSub b z) with e|e
   ·exact(f2 b hb).2.1 e
   ·exact(f2 b hb).2.2.1 e
  ·rcases cl x c e with e|e
   ·exact(f2 b hb).2.2.2.2.1 x c e
   ·obtain⟨o,ho,_⟩:=fo b hb
    exact Nat.ne_of_gt (Nat.lt_trans (Nat.lt_of_lt_of_le (Heap.lt_size ho) hC) e)
  ·rcases List.mem_append.mp hp with hp|hp
   ·exact(f2 b hb).2.2.2.2.2 p hp
   ·have e:p=(s2.heap.objs.size,oD):=by simpa using hp
    subst e
    exact(hDfp b hb).symm
 have loop:∀s₃:Shared,s₃={s2 with heap:=h₁} →
   codeAny (model X.prog X.w) X.A (.compLoop (.ListComp elt [⟨tg,iter,ifs,0⟩] scope pos) 0 (.ref it) (.ref s2.heap.objs.size) (compEnvC scope (ziE scope X.env HH.objs.size) HH.objs.size X.env)) (compPost (model X.prog X.w) X.A X.xe use Qv (.ref s2.heap.objs.size) HH.objs.size) s₃:=by
  rintro s₃ rfl
  refine zcG (fun n s'=>∃i ys its c H',Inv (cxC X pins scope own caps HH.objs.size fp s2 H2) [(s2.heap.objs.size,{cls:=.type "list", data:=.seq its.toArray c})] (zcD own caps σ) H' s'∧Vals ys its∧tn i s'.heap∧(∀b∈fp,H' b=none)∧W i n ys H') ?_ m0
   ⟨0,[],[],0,H2,I4,.nil,st4,fun b hb=>(f2 b hb).1,w0⟩
  rintro n s' ⟨i,ys,its,c,H',I',rv,st',fr',w'⟩
  obtain⟨hz,hcase⟩:=turn i n ys H' w'
  rcases hcase with⟨stop,qF⟩|⟨go,hlt,N,hN,step⟩
  ·refine thn (T.done (cxC X pins scope own caps HH.objs.size fp s2 H2) rfl rfl rfl hc i _ s' _ H' _ I' (stat fr') st' stop) fun r s1 hq27=>?_
   obtain⟨hr,I1⟩:=hq27
   subst hr
   obtain⟨m1,hn1,_⟩:=I1.loc
   obtain⟨pD,nD,_⟩:=I1.pin _ (List.mem_append_right _ (List.mem_singleton.mpr rfl))
   have J1:Inv X pins σ H' s1:=I2.call' I1.os I1.base I1.hok I1.bare fun b hb=>⟨(f2 b hb).2.2.2.1,(f2 b hb).2.1,(f2 b hb).2.2.2.2.1,(f2 b hb).2.2.2.2.2⟩
   have J2:Inv X pins σ (upd H' s2.heap.objs.size (.lst ys)) s1:=J1.track nD (.inr I2.sz) (Nat.ne_of_gt I2.lt) (fun x c e=>Nat.ne_of_lt (clX x c e)) pnD ⟨hz,its,c,rv,pD⟩
   exact fin _ _ ys H' s1 m1 J2 nD qF hn1 I1.free hDC.symm (Nat.ne_of_gt (Nat.lt_of_lt_of_le I2.lt hC)) (I2.nofs hC) (Nat.le_trans I2.sz hC) (fun x c e=>Nat.ne_of_lt (Nat.lt_of_lt_of_le (clX x c e) hC)) pnC
  ·refine thn (T.item (cxC X pins scope own caps HH.objs.size fp s2 H2) rfl rfl rfl hc i _ s' _ H' _ I' (stat fr') st' go) fun r s1 hq28=>?_
   obtain⟨u,hr,h1⟩:=hq28
   subst hr
   refine thn h1 fun _ s2' hq29=>?_
   obtain⟨x,H5,I5,r5,y5,st5,fr5⟩:=hq29
   have I5':=I5.pinned (stat fr5) (T.obj _ _ st5)
   refine thn (CI.tgt pins _ _ _ _ _ s2' _ H5 x u _ I5' r5 (step x H5 y5)) fun _ s6 hq30=>?_
   obtain⟨σ6,H6,I6,kp6,q6⟩:=hq30
   refine thn (CI.tst pins _ _ _ _ _ s6 σ6 H6 _ I6 q6) fun b s7 hq31=>?_
   obtain⟨H7,I7,q7⟩:=hq31
   have again:∀{H8:Hp}{s8:Shared}{ys':List V}{its':List Value}{c':Nat},Inv (cxC X pins scope own caps HH.objs.size fp s2 H2) ([(s2.heap.objs.size,{cls:=.type "list", data:=.seq its'.toArray c'})]++za2 fp s2'.heap) σ6 H8 s8→Vals ys' its'→N ys' H8 →
     ∃m,m<n∧∃i ys its c H',Inv (cxC X pins scope own caps HH.objs.size fp s2 H2) [(s2.heap.objs.size,{cls:=.type "list", data:=.seq its.toArray c})] (zcD own caps σ) H' s8∧Vals ys its∧tn i s8.heap∧(∀b∈fp,H' b=none)∧W i m ys H':=by
    intro H8 s8 ys' its' c' I8 rv' n8
    obtain⟨m',hm,w8⟩:=hN ys' H8 n8
    refine⟨m',hm,i+1,ys',its',c',H8,I8.unpinned.weak kp6.1.symm kp6.2,rv',T.keep _ _ _ st5 fun b hb o e=>(I8.pin (b,o) (List.mem_append_right _ (List.mem_append_right _ (kj hb e)))).1,fun b hb=>?_,w8⟩
    obtain⟨o,e,d⟩:=T.obj _ _ st5 b hb
    exact(I8.pin (b,o) (List.mem_append_right _ (List.mem_append_right _ (kj hb e)))).2.1
   cases b with
   | false=>exact again I7 rv q7
   | true =>
    refine thn (CI.elm pins _ _ _ _ _ s7 σ6 H7 _ I7 q7) fun yv s8 hq32=>?_
    obtain⟨y,H8,I8,r8,q8⟩:=hq32
    obtain⟨pD,nD,ncD,nfD,_⟩:=I8.pin (s2.heap.objs.size,{cls:=.type "list", data:=.seq its.toArray c}) (List.mem_append_right _ (List.mem_append_left _ (List.mem_singleton.mpr rfl)))
    have hlen:=rv.length
    refine call_meets PySem.F.slot_list_append ⟨_,pD,rfl⟩ PySem.F.entry_list_append (PySem.F.args_list_append_2 _ _) (PySem.list_append s2.heap.objs.size its.toArray c yv (by rw[List.size_toArray];omega)) ⟨pD,?_⟩
    have ef:its.toArray.push yv=(its++[yv]).toArray:=by simp
    obtain⟨c',q⟩:∃c',(s8.heap.update s2.heap.objs.size (Obj.mapSeq fun xs=>xs.push yv)).get? s2.heap.objs.size=some {cls:=.type "list", data:=.seq (its++[yv]).toArray c'}:=⟨_,by rw[← ef];exact PySem.IsL.update pD (fun xs=>xs.push yv)⟩
    have keepB:∀b o,b≠s2.heap.objs.size→s8.heap.get? b=some o→(s8.heap.update s2.heap.objs.size (Obj.mapSeq fun xs=>xs.push yv)).get? b=some o:=fun b o hb e=>(Heap.get?_update_other s8.heap _ (Ne.symm hb)).trans e
    have I9:Inv (cxC X pins scope own caps HH.objs.size fp s2 H2) (za2 fp s2'.heap) σ6 H8 s8:=I8.pins_of fun p hp=>I8.pin p (List.mem_append_right _ (List.mem_append_right _ hp))
    have I10:Inv (cxC X pins scope own caps HH.objs.size fp s2 H2) (za2 fp s2'.heap) σ6 H8 {s8 with heap:=s8.heap.update s2.heap.objs.size (Obj.mapSeq fun xs=>xs.push yv)}:=by
     refine I9.turned (t':=s8.toks) (it:=s2.heap.objs.size) keepB nD ncD (.inr (Nat.le_refl _)) (fun x c e=>(cl x c e).elim (fun e=>Nat.ne_of_lt (clX x c e)) fun e=>Nat.ne_of_gt (Nat.lt_of_le_of_lt hC e)) fun p hp=>?_
     rcases List.mem_append.mp hp with hp|hp
     ·exact pnD p hp
     ·exact hDfp _ (zds hp).1
    refine again (its':=its++[yv]) (c':=c') (I10.pins_of fun p hp=>?_) (rv.append (.cons r8 .nil)) q8
    rcases List.mem_append.mp hp with hp|hp
    ·have e:=List.mem_singleton.mp hp
     subst e
     exact⟨q,nD,ncD,nfD,fun v z=>by cases z⟩
    ·exact I10.pin p (List.mem_append_right _ hp)
 exact codeAny_compStart_list (loop _ rfl) (T.self _ 0 _ _ _ st4 (loop _ rfl))
theorem zdV (ok:CompOk X scope caps)(hc:X.calm=true)(hi:PI X tg iter wi)(CI:CompIn X scope own caps tg ifs elt g tt te)(hs:∀x,foldedSetIterable iter X.env x=pure x:=by intro _;rfl) :
  PE X (.ListComp elt [⟨tg,iter,ifs,0⟩] scope pos) (zmf wi g tt te own caps):=by
 intro pins s σ H Q I h
 rw[eval_ListComp]
 refine zcK (use:=none) ok hc hi CI I h (fun D C ys H' s1 m I1 nD q hn nC hCD hCL hCf hC0 hCc hCp=>?_) hs
 refine⟨m,hn,fun h' hsb=>?_⟩
 have I2:Inv X pins σ (upd H' D (.lst ys)) {s1 with heap:=h'}:=I1.turned (t':=s1.toks) (it:=C) (fun b o hb e=>hsb.extBut b o hb e) (by rw[zU hCD];exact nC) hCL (.inr hC0) hCc hCp
 exact⟨.ref D,_,I2,rfl,q D nD⟩
def zmg (j:Nat)(wi:TI)(g:TG)(tt:TT)(te:TE)(own:List Str)(caps:List Nat):TS:=fun E σ H=>wi σ H fun J H1=>jz g tt te (zcD own caps σ) (fun ys H'=>∀D,H' D=none→E.nx (σ.set j (some (.ref D))) (upd H' D (.lst ys))) J H1
theorem zgE {j:Nat}{y:Str}{py spos:Pos}(hN:X.N.Nodup)(hj:X.N[j]? = some y)(hy:X.env.scope.names.lookup y=some .local)(ok:CompOk X scope caps)(hc:X.calm=true)(hi:PI X tg iter wi)(CI:CompIn X scope own caps tg ifs elt g tt te)
  (hsw:swapsWith (.ListComp elt [⟨tg,iter,ifs,0⟩] scope pos) (some (.Name y py)) spos.line X.env=pure true) (hs:∀x,foldedSetIterable iter X.env x=pure x:=by intro _;rfl) :
  PS X (.Assign [.Name y py] (.ListComp elt [⟨tg,iter,ifs,0⟩] scope pos) spos) (zmg j wi g tt te own caps):=by
 intro pins s σ H E I h
 rw[exec_Assign_Name_used _ _ _ _ hsw]
 refine wpAny_bind (wpAny_standAt (wpAny_bind ?_))
 show wpAny _ X.A (do let _ ← comprehension (.ListComp elt [⟨tg,iter,ifs,0⟩] scope pos) scope X.env _ (newList []) false (eval iter X.env) (some (assign (.Name y py) X.env))) _ _ s
 refine wpAny_bind (wpAny_mono (zcK (use:=some (assign (.Name y py) X.env)) (Qv:=fun _ s'=>SP X pins E .next s') ok hc hi CI I h (fun D C ys H' s1 m I1 nD q hn nC hCD hCL hCf hC0 hCc hCp=>?_) hs) (fun _ s' hq=>wpAny_pure (wpAny_pure hq)) fun _ _ e=>e)
 obtain⟨oC,es,ep,eC,dC,rC⟩:=id hn
 have I2:Inv X (pins++[(C,oC)]) σ (upd H' D (.lst ys)) s1:=I1.pins_of fun p hp=>by
  rcases List.mem_append.mp hp with hp|hp
  ·exact I1.pin p (List.mem_append_right _ hp)
  ·have e:=List.mem_singleton.mp hp
   subst e
   exact⟨eC,by rw[zU hCD];exact nC,hCL,hCf,fun v z=>by rw[dC] at z;cases z⟩
 show wpAny _ X.A (assign (.Name y py) X.env (.ref D)) _ _ s1
 refine wpAny_assign_Name (zaI (v:=.ref D) I2 hN hj (.inl hy) rfl (fun s2 I3=>?_) (.inr hy))
 obtain⟨e3,n3,_⟩:=I3.pin (C,oC) (List.mem_append_right _ (List.mem_append_right _ (List.mem_singleton.mpr rfl)))
 have I4:Inv X pins (σ.set j (some (.ref D))) (upd H' D (.lst ys)) s2:=I3.pins_of fun p hp=>I3.pin p (List.mem_append_right _ (List.mem_append_left _ hp))
 refine⟨m,⟨oC,es,ep,e3,dC,rC⟩,fun h' hsb=>?_⟩
 have I5:Inv X pins (σ.set j (some (.ref D))) (upd H' D (.lst ys)) {s2 with heap:=h'}:=I4.turned (t':=s2.toks) (it:=C) (fun b o hb e=>hsb.extBut b o hb e) n3 hCL (.inr hC0) hCc hCp
 exact⟨_,_,I5,q D nD⟩
end
end L2
namespace L2
open PySem PySem.Spec PyProof.Rows
def T (l:List Nat):Str:=⟨l.toArray⟩
theorem jL (l:List Nat):(T l).cps.toList=l:=by simp[T]
theorem znc (x:Str):T x.cps.toList=x:=by cases x;simp[T]
theorem zax (l:List Nat):(T l).length=l.length:=by simp[T,Str.length]
theorem zlY (l m:List Nat):T l++T m=T (l++m):=by
 show Str.append (T l) (T m)=_
 simp[Str.append,T]
theorem zfm {l m:List Nat}(h:T l=T m):l=m:=by
 have:=congrArg (fun x:Str=>x.cps.toList) h
 simpa [T] using this
theorem zjs (l m:List Nat):(T l == T m)=(l == m):=by
 rw[Bool.eq_iff_iff]
 simp only[beq_iff_eq]
 exact⟨zfm,congrArg T⟩
theorem uV {l:List Nat}(h:∀c∈l,c<0x110000)(hl:l.length≤1000000):TxtOk (T l):=by
 refine⟨?_,by rw[zax];exact hl⟩
 show(T l).cps.all (· < 0x110000)=true
 simp only[T,List.all_toArray,List.all_eq_true,decide_eq_true_eq]
 exact h
theorem TxtOk.app {x y:Str}(hx:TxtOk x)(hy:TxtOk y)(hl:x.length+y.length≤1000000):TxtOk (x++y):=by
 obtain⟨a,_⟩:=hx
 obtain⟨b,_⟩:=hy
 refine⟨?_,?_⟩
 ·have a':x.cps.all (· < 0x110000)=true:=a
  have b':y.cps.all (· < 0x110000)=true:=b
  show(x.cps++y.cps).all (· < 0x110000)=true
  rw[Array.all_append,a',b'];rfl
 ·show(x.cps++y.cps).size≤1000000
  rw[Array.size_append];exact hl
theorem zeX (lo:Option Int)(n d:Nat)(hd:d≤n):(match lo with|none=>(d:Int)|some i=>max 0 (min (if i<0 then i+(n:Int) else i) (n:Int)))=((HT.sIx n d lo:Nat):Int):=by
 cases lo with
 | none=>rfl
 | some i =>
  show max 0 (min (if i<0 then i+(n:Int) else i) (n:Int))=(((if i<0 then(i+(n:Int)).toNat else min i.toNat n):Nat):Int)
  split <;>omega
theorem zj1 (x:Str)(lo hi:Option Int):Txt.slice x lo hi=T ((x.cps.toList.drop (HT.sIx x.length 0 lo)).take (HT.sIx x.length x.length hi - HT.sIx x.length 0 lo)):=by
 have ha:HT.sIx x.length 0 lo≤x.length:=HT.sIx_le _ _ (Nat.zero_le _) lo
 have hb:HT.sIx x.length x.length hi≤x.length:=HT.sIx_le _ _ (Nat.le_refl _) hi
 have e:Builtin.Str.strSliceIndices lo hi 1 x.length=Builtin.Str.strSliceIndices (some ((HT.sIx x.length 0 lo:Nat):Int)) (some ((HT.sIx x.length x.length hi:Nat):Int)) 1 x.length:=by
  have h1:=zeX lo x.length 0 (Nat.zero_le _)
  have h2:=zeX hi x.length x.length (Nat.le_refl _)
  generalize HT.sIx x.length 0 lo=a at *
  generalize HT.sIx x.length x.length hi=b at *
  have k1:max 0 (min (if (a:Int)<0 then(a:Int)+(x.length:Int) else(a:Int)) (x.length:Int))=(a:Int):=by split <;>omega
  have k2:max 0 (min (if (b:Int)<0 then(b:Int)+(x.length:Int) else(b:Int)) (x.length:Int))=(b:Int):=by split <;>omega
  unfold Builtin.Str.strSliceIndices
  simp only[show(1:Int) > 0 by decide,if_true,k1,k2]
  cases lo <;>cases hi <;>simp only at h1 h2 ⊢ <;>first|rw[h1,h2] | (rw[← h1,← h2];rfl)
 have e2:Txt.slice x lo hi=StrLaws.sliceText x (some ((HT.sIx x.length 0 lo:Nat):Int)) (some ((HT.sIx x.length x.length hi:Nat):Int)):=by
  unfold Txt.slice StrLaws.sliceText
  rw[e]
 rw[e2]
 by_cases hab:HT.sIx x.length 0 lo≤HT.sIx x.length x.length hi
 ·exact StrLaws.sliceText_nat x hab hb
 ·have hz:HT.sIx x.length x.length hi - HT.sIx x.length 0 lo=0:=by omega
  rw[hz,List.take_zero]
  generalize HT.sIx x.length 0 lo=a at *
  generalize HT.sIx x.length x.length hi=b at *
  have k1:max 0 (min (if (a:Int)<0 then(a:Int)+(x.length:Int) else(a:Int)) (x.length:Int))=(a:Int):=by split <;>omega
  have k2:max 0 (min (if (b:Int)<0 then(b:Int)+(x.length:Int) else(b:Int)) (x.length:Int))=(b:Int):=by split <;>omega
  have e3:Builtin.Str.strSliceIndices (some (a:Int)) (some (b:Int)) 1 x.length=[]:=by
   unfold Builtin.Str.strSliceIndices sliceRange
   simp only[show(1:Int) > 0 by decide,if_true,k1,k2]
   have:¬((b:Int) > (a:Int)):=by omega
   simp[this]
   try omega
  unfold StrLaws.sliceText
  rw[e3]
  simp only[List.length_nil,List.filterMap_nil]
  split
  ·rename_i h
   have hn:x.length=0:=by
    simp at h
    omega
   omega
  ·rfl
section
variable {X:Cx}{e:Expr}{te:TE}{pos p2:Pos}
def znx:V→Option Int→Option Int→Hp→VK→Prop:=fun x lo hi H Q=>∃z,x=.str z∧z.length≤sizeLine∧Q (.str (T ((z.cps.toList.drop (HT.sIx z.length 0 lo)).take (HT.sIx z.length z.length hi - HT.sIx z.length 0 lo)))) H
theorem part_of {v:Value}{o:Option Int}(p:IsPart v o):∃q:Option (Int×Tok),v=partValue q∧q.map (·.1)=o:=by
 cases p with
 | none=>exact⟨none,rfl,rfl⟩
 | int i t=>exact⟨some (i,t),rfl,rfl⟩
theorem zkz:SlR X znx:=by
 intro pins s σ H x v vl vu lo hi sl Q I rx hs pl pu h
 obtain⟨z,rfl,hz,q⟩:=h
 obtain⟨t,rfl⟩:=rx
 obtain⟨l,rfl,rfl⟩:=part_of pl
 obtain⟨u,rfl,rfl⟩:=part_of pu
 refine⟨"str", _,PySem.F.slot_str_getitem.lookup,typeIs_str _ _ _,?_⟩
 refine wpAny_getItem_str_slice (l:=l) (u:=u) (st:=none) hs rfl ?_
 refine post_val_or_str (y:=z) ?_
 have e:=zj1 z (l.map (·.1)) (u.map (·.1))
 unfold Txt.slice at e
 refine⟨Nat.le_trans (Txt.slice_le z (l.map (·.1)) (u.map (·.1))) hz,fun t' k=>⟨.str _,H,I.tok _,⟨t',?_⟩,q⟩⟩
 exact congrArg (fun y=>Value.str y t') e
def Its (x:Str):It:=⟨fun i _=>i<x.cps.size,fun i H v H'=>H'=H∧∃c,x.cps.toList[i]? = some c∧v=.str (T [c]),fun i _=>x.cps.size≤i⟩
theorem zeS {P:Program}{w:World}{K:PySem.W.Frag}{tg:Expr}{x:Str}{t:Tok}{ty:String}(it:Addr)(W:∀A':Around,A'.handled=none→Walks P w A' it [it] [it] x.cps.size (SignAt x) (fun i h=>h.IsStrIter it ty x t i))
  (hn:["enumerate", "zip", "dict_itemiterator", "dict_reverseitemiterator", "odict_iterator", "itertools.zip_longest", "itertools.pairwise"].contains ty=false)
  (hend:∀(A:Around) (i:Nat) (s:Shared) (Q:Option Value→Shared→Prop) (E:Value→Shared→Prop),A.handled=none→s.heap.IsStrIter it ty x t i→x.cps[i]? = none→(∀h',Heap.ExtBut it s.heap h'→Q none {s with heap:=h'})→wpAny (model P w) A (pyNext (.ref it)) Q E s)
  (hself:∀(A:Around) (i:Nat) (s:Shared) (Q:Value→Shared→Prop) (E:Value→Shared→Prop),s.heap.IsStrIter it ty x t i→Q (.ref it) s→wpAny (model P w) A (pyIter (.ref it)) Q E s) :
  Turn P w K tg (Its x) [it] it (fun i h=>h.IsStrIter it ty x t i) where
 mem:=by simp
 obj:=fun i h st b hb=>by
  have e:b=it:=by simpa using hb
  subst e
  obtain⟨o,e,c,d⟩:=st
  exact⟨o,e,fun v z=>by rw[d] at z;cases z⟩
 keep:=fun i h h' st k=>by obtain⟨o,e,r⟩:=st;exact⟨o,k it (by simp) o e,r⟩
 item:=by
  intro X hP hw hK hc i pins s σ H E I hf st hg
  subst hP hw hK
  obtain⟨f0,f1,f2,f3,f4,f5⟩:=hf it (by simp)
  refine(W X.A (I.ok.hd hc)).item i s _ _ hg st fun v h' tk hv st' kk=>?_
  obtain⟨c,u,hcc,rfl⟩:=hv
  have I1:Inv X pins σ H {s with heap:=h',toks:=tk}:=I.turned (fun b o hb e=>kk b o (by simpa using hb) e) f0 f1 f3 f4 f5
  obtain⟨o,e,c1,d1⟩:=id st'
  exact⟨_,rfl,zgw (s:={s with heap:=h',toks:=tk}) e c1 d1 hn ⟨.str (T [c]),H,I1,⟨u,rfl⟩,⟨rfl,c,by simpa using hcc,rfl⟩,st',fun b hb=>(hf b hb).1⟩⟩
 done:=by
  intro X hP hw hK hc i pins s σ H E I hf st hg
  subst hP hw hK
  obtain⟨f0,f1,f2,f3,f4,f5⟩:=hf it (by simp)
  have hge:x.cps.size≤i:=hg
  exact hend X.A i s _ _ (I.ok.hd hc) st (Array.getElem?_eq_none hge) fun h' eb=>⟨rfl,I.turned (t':=s.toks) (fun b o hb e=>eb b o hb e) f0 f1 f3 f4 f5⟩
 self:=fun A i s Q E st h=>hself A i s Q E st h
def znu (tl:TE):TI:=fun σ H R=>tl σ H fun v H1=>∃x,v=.str x∧R (Its x) H1
theorem zlv {tg l:Expr}{tl:TE}(hl:PE X l tl):PI X tg l (znu tl):=by
 intro pins s σ H R I h
 refine thn (hl pins s σ H _ I h) fun v s1 hq33=>?_
 obtain⟨y,H1,I1,r1,q1⟩:=hq33
 obtain⟨x,e,q⟩:=q1
 subst e
 obtain⟨t,rfl⟩:=r1
 have fin:∀(ty:String) (T':Turn X.prog X.w X.K tg (Its x) [s1.heap.objs.size] s1.heap.objs.size (fun i h=>h.IsStrIter s1.heap.objs.size ty x t i)),
   PIE X pins σ tg R (.ref s1.heap.objs.size) {s1 with heap:=s1.heap.push {cls:=.type ty,data:=.fields #[.str x t,.int 0 0]} }:=fun ty T' =>
  ⟨s1.heap.objs.size,[s1.heap.objs.size],_,_,H1,rfl,I1.kept (t':=s1.toks) fun b o e=>Heap.get?_push_of_some _ e,T',⟨_,Heap.get?_push_size _ rfl,rfl,rfl⟩,fun b hb=>by
   have e:b=s1.heap.objs.size:=by simpa using hb
   subst e
   exact I1.fpOk (Nat.le_refl _) (I1.hok.fresh (Nat.le_refl _)),q⟩
 cases ha:x.cps.all (· < 128)
 ·exact wpAny_pyIter_wide ha (fin _ (zeS _ (fun A' hA=>Walks.strWide hA _ x t) (by decide) (fun A i s Q E hh st hx hQ=>wpAny_pyNext_wide_end hh st hx hQ) fun A i s Q E st hq=>wpAny_pyIter_striter_wide st hq))
 ·exact wpAny_pyIter_ascii ha (fin _ (zeS _ (fun A' hA=>Walks.strAscii hA _ x t) (by decide) (fun A i s Q E hh st hx hQ=>wpAny_pyNext_ascii_end hh st hx hQ) fun A i s Q E st hq=>wpAny_pyIter_striter_ascii st hq))
end
def Wlk (J:It)(G:Hp→Prop)(xs:List V):Prop:=∀H,G H→(∀i,i<xs.length→J.go i H∧∀x H',J.yld i H x H'→H'=H∧xs[i]? = some x)∧J.stop xs.length H
theorem zhD {K:PySem.W.Frag}{a:Addr}{xs:List V}:Wlk (Itl K a) (fun H=>SqL K H a xs) xs:=fun H q =>
 ⟨fun i hi=>⟨⟨xs,xs[i],q,by simp[hi]⟩,fun x H' y=>⟨y.1,y.2 xs q⟩⟩,⟨xs,q,Nat.le_refl _⟩⟩
theorem zjr {K:PySem.W.Frag}{a:Addr}{xs:List V}:Wlk (Itt K a) (fun H=>SqT K H a xs) xs:=fun H q =>
 ⟨fun i hi=>⟨⟨xs,xs[i],q,by simp[hi]⟩,fun x H' y=>⟨y.1,y.2 xs q⟩⟩,⟨xs,q,Nat.le_refl _⟩⟩
theorem zgk {lo:Int}{n:Nat}{G:Hp→Prop}:Wlk (Itr lo n) G ((List.range n).map fun(k:Nat)=>V.int (lo+(k:Int))):=fun H _=>by
 refine⟨fun i hi=>⟨by show i<n;simpa using hi,fun x H' y=>⟨y.1,?_⟩⟩,?_⟩
 ·have hi':i<n:=by simpa using hi
  rw[y.2];simp[hi']
 ·show n≤_;simp
theorem zkc {x:Str}{G:Hp→Prop}:Wlk (Its x) G (x.cps.toList.map fun c=>V.str (T [c])):=fun H _=>by
 refine⟨fun i hi=>⟨by show i<x.cps.size;simpa using hi,fun v H' y=>⟨y.1,?_⟩⟩,?_⟩
 ·obtain⟨_,c,hc,rfl⟩:=y
  rw[List.getElem?_map,hc];rfl
 ·show x.cps.size≤_;simp
theorem zjK {J:It}{G:Hp→Prop}{xs:List V}(W:Wlk J G xs){g:TG}{tb:TS}{D:Ends}{σ:St}{H:Hp}(Pv:Nat→St→Hp→Prop)(h0:Pv 0 σ H)(hG:∀i σ H,i≤xs.length→Pv i σ H→G H)
  (hs:∀i x σ H,xs[i]? = some x→Pv i σ H→g x σ H fun σ2 H2=>tb {D with nx:=Pv (i+1),ct:=Pv (i+1),bk:=D.nx} σ2 H2) (hd:∀σ H,Pv xs.length σ H→D.nx σ H) :
  ∃ W:Nat→Nat→St→Hp→Prop,(∃m,W 0 m σ H)∧∀i m σ H,W i m σ H →
   (J.stop i H∧D.nx σ H)∨(J.go i H∧∃N:St→Hp→Prop,(∀σ' H',N σ' H'→∃m',m'<m∧W (i+1) m' σ' H')∧∀x H',J.yld i H x H'→g x σ H' fun σ2 H2=>tb {D with nx:=N,ct:=N,bk:=D.nx} σ2 H2):=by
 refine⟨fun i m σ H=>m=xs.length - i∧i≤xs.length∧Pv i σ H,⟨xs.length,by simp,Nat.zero_le _,h0⟩,?_⟩
 rintro i m σ H ⟨rfl,hi,p⟩
 obtain⟨w1,w2⟩:=W H (hG i σ H hi p)
 by_cases hlt:i<xs.length
 ·obtain⟨g1,g2⟩:=w1 i hlt
  refine .inr ⟨g1,Pv (i+1),fun σ' H' p'=>⟨xs.length - (i+1),by omega,rfl,hlt,p'⟩,fun x H' y=>?_⟩
  obtain⟨e,hx⟩:=g2 x H' y
  subst e
  exact hs i x σ _ hx p
 ·have e:i=xs.length:=by omega
  subst e
  exact .inl ⟨w2,hd σ H p⟩
theorem zgs {J:It}{G:Hp→Prop}{xs:List V}(W:Wlk J G xs)(hz:xs.length≤sizeLine){g:TG}{tt:TT}{te:TE}{σ0:St}{F:List V→Hp→Prop}{H1:Hp}(Pv:Nat→List V→Hp→Prop)(h0:Pv 0 [] H1)(hG:∀i ys H,i≤xs.length→Pv i ys H→G H∧ys.length≤i)
  (hs:∀i x ys H,xs[i]? = some x→Pv i ys H→g x σ0 H fun σ2 H2=>Kps σ0 σ2∧tt σ2 H2 fun b H3=>if b=true then te σ2 H3 fun y H4=>Pv (i+1) (ys++[y]) H4 else Pv (i+1) ys H3) (hd:∀ys H,Pv xs.length ys H→F ys H) :
  jz g tt te σ0 F J H1:=by
 refine⟨fun i m ys H=>m=xs.length - i∧i≤xs.length∧Pv i ys H,⟨xs.length,by simp,Nat.zero_le _,h0⟩,?_⟩
 rintro i m ys H ⟨rfl,hi,p⟩
 obtain⟨gH,hl⟩:=hG i ys H hi p
 refine⟨by omega,?_⟩
 obtain⟨w1,w2⟩:=W H gH
 by_cases hlt:i<xs.length
 ·obtain⟨g1,g2⟩:=w1 i hlt
  refine .inr ⟨g1,by omega,Pv (i+1),fun ys' H' p'=>⟨xs.length - (i+1),by omega,rfl,hlt,p'⟩,fun x H' y=>?_⟩
  obtain⟨e,hx⟩:=g2 x H' y
  subst e
  exact hs i x ys _ hx p
 ·have e:i=xs.length:=by omega
  subst e
  exact .inl ⟨w2,hd ys H p⟩
theorem Kps.set {σ:St}{i:Nat}{v:V}(h:σ[i]? = some none):Kps σ (σ.set i (some v)):=by
 refine⟨by simp,fun j u e=>?_⟩
 by_cases hj:i=j
 ·subst hj;rw[h] at e;cases e
 ·rw[List.getElem?_set_ne hj];exact e
theorem Kps.trans {a b c:St}(h:Kps a b)(k:Kps b c):Kps a c:=⟨k.1.trans h.1,fun i v e=>k.2 i v (h.2 i v e)⟩
def Gat (K:PySem.W.Frag)(H1:Hp)(e:Nat→PyData)(i:Nat)(ys:List V)(H:Hp):Prop:=Same H1 H∧Iss K H ys ((List.range i).map e)
theorem Gat.snoc {K:PySem.W.Frag}{H1 H H4:Hp}{e:Nat→PyData}{i:Nat}{ys:List V}{y:V}(h:Gat K H1 e i ys H)(sm:Same H H4)(is:Is K H4 y (e i)):Gat K H1 e (i+1) (ys++[y]) H4:=by
 refine⟨h.1.trans sm,?_⟩
 rw[List.range_succ,List.map_append]
 exact(h.2.mono sm).append (.cons is .nil)
def GatF (K:PySem.W.Frag)(H1:Hp)(p:Nat→Bool)(e:Nat→PyData)(i:Nat)(ys:List V)(H:Hp):Prop:=Same H1 H∧Iss K H ys (((List.range i).filter p).map e)
theorem GatF.snoc {K:PySem.W.Frag}{H1 H H4:Hp}{p:Nat→Bool}{e:Nat→PyData}{i:Nat}{ys:List V}{y:V}(h:GatF K H1 p e i ys H)(hp:p i=true)(sm:Same H H4)(is:Is K H4 y (e i)):GatF K H1 p e (i+1) (ys++[y]) H4:=by
 refine⟨h.1.trans sm,?_⟩
 rw[List.range_succ,List.filter_append,List.map_append]
 refine(h.2.mono sm).append ?_
 simp only[List.filter_cons,hp,if_true,List.filter_nil,List.map_cons,List.map_nil]
 exact .cons is .nil
end L2
namespace L2
open PySem PySem.Spec PyProof.Rows
section
variable {X:Cx}
theorem old_ne {s:Shared}{b:Addr}{o:Obj}(e:s.heap.get? b=some o):b∉[s.heap.objs.size]:=fun z=>by
 have e':b=s.heap.objs.size:=by simpa using z
 subst e'
 exact absurd (Heap.lt_size e) (Nat.lt_irrefl _)
theorem zeg:∀{bs:List Bool}{us:List Value},Vals (bs.map V.bl) us→us=bs.map Value.bool
 | [],_,r=>by cases r;rfl
 | b::bs,_,r=>by
  cases r with
  | cons r t=>cases r;rw[zeg t];rfl
theorem range_all {α:Type}(l:List α)(d:α)(p:α→Bool):(List.range l.length).all (fun i=>p (l.getD i d))=l.all p:=by
 have:(List.range l.length).map (fun i=>l.getD i d)=l:=range_getD l d
 conv=>rhs;rw[← this]
 rw[List.all_map];rfl
theorem range_any {α:Type}(l:List α)(d:α)(p:α→Bool):(List.range l.length).any (fun i=>p (l.getD i d))=l.any p:=by
 have:(List.range l.length).map (fun i=>l.getD i d)=l:=range_getD l d
 conv=>rhs;rw[← this]
 rw[List.any_map];rfl
theorem zaZ {prog:Program}{w:World}{A:Around}(bs:List Bool):TruthOf prog w A (fun i v=>(bs.map Value.bool).toArray[i]? = some v) (fun i=>bs.getD i false):=by
 intro i v s Q E hP hQ
 have e:(bs.map Value.bool)[i]? = some v:=by simpa using hP
 rw[List.getElem?_map] at e
 cases hb:bs[i]? with
 | none=>rw[hb] at e;cases e
 | some b =>
  rw[hb] at e
  have e':v=Value.bool b:=(Option.some.inj e).symm
  subst e'
  have:bs.getD i false=b:=by rw[List.getD_eq_getElem?_getD,hb];rfl
  have hQ':Q (bs.getD i false) s:=hQ
  rw[this] at hQ'
  exact wpAny_truthy_bool hQ'
theorem zcx (hc:X.calm=true):qR X (.builtin "all") (fun xs H Q=>∃(a:Addr) (bs:List Bool),xs=[.ref a]∧SqL X.K H a (bs.map V.bl)∧Q (.bl (bs.all id)) H):=by
 intro pins s σ H xs us Q I r h
 obtain⟨a,bs,rfl,ha,q⟩:=h
 obtain⟨u,rfl,ru⟩:=vals1 r
 cases ru
 obtain⟨its,rv,pl,hz⟩:=I.list ha
 obtain rfl:=zeg rv
 refine call_all_walk (wpAny_pyIter_list pl.isList ?_)
 have hlt:a<s.heap.objs.size:=by obtain⟨_,_,e,_⟩:=pl;exact Heap.lt_size e
 refine⟨_,_,_,_,_,_,fun i=>bs.getD i false,rfl,Walks.list (show X.A.in1.handled=none from I.ok.hd hc) s.heap.objs.size a (Nat.ne_of_lt hlt) _,⟨⟨_,Heap.get?_push_size _ rfl,rfl,rfl⟩,pl.isList.push _⟩,zaZ bs,fun h' tk hk=>?_⟩
 refine⟨.bl _,H,I.kept (h':=h') (t':=tk) fun b o e=>hk b o (old_ne e) (Heap.get?_push_of_some _ e),rfl,?_⟩
 have:(List.range ((bs.map Value.bool).toArray).size).all (fun i=>bs.getD i false)=bs.all id:=by
  rw[show((bs.map Value.bool).toArray).size=bs.length by simp]
  exact range_all bs false id
 rw[this]
 exact q
theorem zeD (hc:X.calm=true):qR X (.builtin "any") (fun xs H Q=>∃(a:Addr) (bs:List Bool),xs=[.ref a]∧SqL X.K H a (bs.map V.bl)∧Q (.bl (bs.any id)) H):=by
 intro pins s σ H xs us Q I r h
 obtain⟨a,bs,rfl,ha,q⟩:=h
 obtain⟨u,rfl,ru⟩:=vals1 r
 cases ru
 obtain⟨its,rv,pl,hz⟩:=I.list ha
 obtain rfl:=zeg rv
 refine call_any_walk (wpAny_pyIter_list pl.isList ?_)
 have hlt:a<s.heap.objs.size:=by obtain⟨_,_,e,_⟩:=pl;exact Heap.lt_size e
 refine⟨_,_,_,_,_,_,fun i=>bs.getD i false,rfl,Walks.list (show X.A.in1.handled=none from I.ok.hd hc) s.heap.objs.size a (Nat.ne_of_lt hlt) _,⟨⟨_,Heap.get?_push_size _ rfl,rfl,rfl⟩,pl.isList.push _⟩,zaZ bs,fun h' tk hk=>?_⟩
 refine⟨.bl _,H,I.kept (h':=h') (t':=tk) fun b o e=>hk b o (old_ne e) (Heap.get?_push_of_some _ e),rfl,?_⟩
 have:(List.range ((bs.map Value.bool).toArray).size).any (fun i=>bs.getD i false)=bs.any id:=by
  rw[show((bs.map Value.bool).toArray).size=bs.length by simp]
  exact range_any bs false id
 rw[this]
 exact q
theorem jN:∀{ss:List Str}{us:List Value},Vals (ss.map V.str) us→StrsAre us ss
 | [],_,r=>by cases r;exact .nil
 | x::ss,_,r=>by
  cases r with
  | cons r t=>obtain⟨u,rfl⟩:=r;exact .cons _ _ (jN t)
theorem zjq (ls:List (List Nat)):Txt.join (T []) (ls.map T)=T ls.flatten:=by
 have key:∀(ls:List (List Nat)) (acc:Array Nat),(ls.map T).foldl (fun acc p=>acc++(T []).cps++p.cps) acc=acc++ls.flatten.toArray:=by
  intro ls
  induction ls with
  | nil=>intro acc;simp
  | cons l r ih =>
   intro acc
   rw[List.map_cons,List.foldl_cons,ih]
   simp[T]
 show(⟨((ls.map T).drop 1).foldl (fun acc p=>acc++(T []).cps++p.cps) ((ls.map T).headD Str.empty).cps⟩:Str)=_
 cases ls with
 | nil=>rfl
 | cons l r =>
  simp only[List.map_cons,List.drop_succ_cons,List.drop_zero,List.headD_cons]
  rw[key]
  simp[T]
def rJoin (K:PySem.W.Frag):V→List V→Hp→VK→Prop:=fun x vs H Q=>∃(a:Addr) (ls:List (List Nat)),x=.str (T [])∧vs=[.ref a]∧SqL K H a (ls.map fun l=>V.str (T l))∧ls.flatten.length≤1000000∧Q (.str (T ls.flatten)) H
theorem zjG:MtR X "str.join" (rJoin X.K):=by
 intro pins s σ H x xs v us Q I rx rs h
 obtain⟨a,ls,rfl,rfl,ha,hz,q⟩:=h
 obtain⟨t,rfl⟩:=rx
 obtain⟨u,rfl,ru⟩:=vals1 rs
 cases ru
 obtain⟨its,rv,pl,hsz⟩:=I.list ha
 have rv':Vals ((ls.map T).map V.str) its:=by rw[List.map_map];exact rv
 have hlen:((ls.map T).map (·.length)).sum=ls.flatten.length:=by
  rw[List.map_map,List.length_flatten]
  exact congrArg List.sum (List.map_congr_left fun l _=>zax l)
 refine join_list pl.isList (by simpa using jN rv') ?_ fun t' k=>?_
 ·rw[hlen,zax]
  simp only[List.length_nil,Nat.mul_zero,Nat.add_zero]
  exact Nat.le_trans hz (by decide)
 ·rw[zjq]
  exact⟨.str _,H,I.tok _,⟨_,rfl⟩,q⟩
theorem zhG (l m:List Nat):Txt.startswith (T l) (T m)=m.isPrefixOf l:=by
 unfold Txt.startswith
 rw[StrLaws.subAt_eq,jL,jL,zax,zax,List.drop_zero,Nat.zero_add]
 rw[Bool.eq_iff_iff,Bool.and_eq_true]
 simp only[decide_eq_true_eq,beq_iff_eq]
 rw[List.isPrefixOf_iff_prefix]
 constructor
 ·rintro⟨h1,h2⟩
  rw[← h2];exact List.take_prefix _ _
 ·intro h
  exact⟨h.length_le,(List.prefix_iff_eq_take.mp h).symm⟩
def zkh:V→List V→Hp→VK→Prop:=fun x vs H Q=>∃l m,x=.str (T l)∧vs=[.str (T m)]∧Q (.bl (m.isPrefixOf l)) H
theorem zfF:MtR X "str.startswith" zkh:=by
 intro pins s σ H x xs v us Q I rx rs h
 obtain⟨l,m,rfl,rfl,q⟩:=h
 obtain⟨t,rfl⟩:=rx
 obtain⟨u,rfl,ru⟩:=vals1 rs
 obtain⟨t',rfl⟩:=ru
 refine SC.startswith ?_
 rw[zhG]
 exact⟨.bl _,H,I,rfl,q⟩
def zmS:R2:=fun x y H Q=>∃c l,x=.str (T [c])∧y=.str (T l)∧Q (.bl (decide (c∈l))) H
theorem zkF:OpR X (compareOp .In) zmS:=by
 intro pins s σ H x y v u Q I rx ry h
 obtain⟨c,l,rfl,rfl,q⟩:=h
 obtain⟨t,rfl⟩:=rx
 obtain⟨t',rfl⟩:=ry
 refine in_str (zeo I q ?_)
 have e:=StrLaws.found_one (T l) c
 rw[jL] at e
 exact e.symm
theorem vV:OpR X (binaryOp .Add) (fun x y H Q=>∃l m,x=.str (T l)∧y=.str (T m)∧l.length+m.length≤1000000∧Q (.str (T (l++m))) H):=by
 intro pins s σ H x y v u Q I rx ry h
 obtain⟨l,m,rfl,rfl,hz,q⟩:=h
 refine zfk pins s σ H _ _ v u Q I rx ry ⟨_,_,rfl,rfl,?_,?_⟩
 ·rw[zax,zax]
  first|omega|exact Nat.le_trans hz (by decide)
 ·rw[zlY];exact q
def Sm (i:Int):Prop:=i.natAbs<2 ^ 4000
theorem Sm.log {i:Int}(h:Sm i):i.natAbs.log2<4000:=by
 by_cases h0:i.natAbs=0
 ·rw[h0];decide +kernel
 ·exact(Nat.log2_lt h0).mpr h
theorem uN:OpR X (binaryOp .Mult) (rI (fun i j=>Sm i∧Sm j) fun i j=>.int (i*j)):=opI fun i j _ _ _ _ _ hc q=>mul_int q (by
 obtain⟨h1,h2⟩:=hc
 have a:=h1.log
 have b:=h2.log
 unfold IntMulOk
 intro z
 rw[Bool.and_eq_true] at z
 have z2:Builtin.Int.intTooBig ((Builtin.Int.intBits i:Int)+(Builtin.Int.intBits j:Int))=true:=by first|exact z.2|exact_mod_cast z.2
 unfold Builtin.Int.intTooBig at z2
 have e1:Builtin.Int.intBits i≤4001:=by unfold Builtin.Int.intBits;split <;>omega
 have e2:Builtin.Int.intBits j≤4001:=by unfold Builtin.Int.intBits;split <;>omega
 have hb:((bitsLine:Nat):Int)≥10000:=by decide
 have:=of_decide_eq_true z2
 omega)
theorem kY:OpR X (binaryOp .FloorDiv) (rI (fun _ j=>0<j∧Sm j) fun i j=>.int (i / j)):=opI fun i j _ _ _ _ _ hc q=>by
 obtain⟨h1,h2⟩:=hc
 refine floordiv_int (by omega) ?_ (.inl (PyProof.noPylong_of_log2 (by have:=h2.log;omega)))
 rw[Int.fdiv_eq_ediv_of_nonneg i (by omega)]
 exact q
theorem Same.upd {H:Hp}{p:Addr}{o:HO}(h:H p=none):Same H (upd H p o):=fun b u e=>by rw[zU (yM e h)];exact e
theorem zkY:KV ([]:List (Key×V)) ([]:List (Key×Value)):=.nil
theorem yt {a b:Nat}(h:a<b∨b<a):(a:Addr)≠(b:Addr):=by
 rcases h with h|h
 ·exact Nat.ne_of_lt h
 ·exact Nat.ne_of_gt h
end
end L2
namespace L2
open PySem PySem.Spec PyProof.Rows
def tyN:PyData→String
 | .none => "NoneType" | .bool _ => "bool" | .int _ => "int" | .str _ => "str" | .list _ => "list" | .tuple _ => "tuple" | .dict _ => "dict"
theorem zjF {K:PySem.W.Frag}(d:PyData):PySem.W.kitOne K (.type (tyN d)) (.type "int")=some (match d with | .int _=>true | .bool _=>true|_=>false):=by cases d <;>rfl
theorem zh1 {K:PySem.W.Frag}(d:PyData):PySem.W.kitOne K (.type (tyN d)) (.type "bool")=some (match d with | .bool _=>true|_=>false):=by cases d <;>rfl
theorem zfR {K:PySem.W.Frag}(d:PyData):PySem.W.kitOne K (.type (tyN d)) (.type "str")=some (match d with | .str _=>true|_=>false):=by cases d <;>rfl
theorem kit_tuple {K:PySem.W.Frag}(d:PyData):PySem.W.kitOne K (.type (tyN d)) (.type "tuple")=some (match d with | .tuple _=>true|_=>false):=by cases d <;>rfl
section
variable {X:Cx}
theorem zdu:qR X (.builtin "isinstance") (fun xs H Q=>∃x d n b,xs=[x,.ty n]∧Is X.K H x d∧PySem.W.kitOne X.K (.type (tyN d)) (.type n)=some b∧Q (.bl b) H):=by
 intro pins s σ H xs us Q I r h
 obtain⟨x,d,n,b,rfl,is,e,q⟩:=h
 obtain⟨u,u2,rfl,ru,r2⟩:=vals2 r
 cases r2
 have fin:∀tk,EP X pins σ Q (.bool b) {s with toks:=tk}:=fun tk=>⟨.bl b,H,I.tok _,rfl,q⟩
 cases is with
 | non=>cases (show u=Value.none from ru);exact PySem.W.kia_one PySem.W.kitx_none I.kIn True.intro e (fun z=>nomatch z) fin
 | bl y=>cases (show u=Value.bool y from ru);exact PySem.W.kia_one PySem.W.kitx_bool I.kIn True.intro e (fun z=>nomatch z) fin
 | int i=>obtain⟨t,q'⟩:=(show ∃t,u=Value.int i t from ru);cases q';exact PySem.W.kia_one PySem.W.kitx_int I.kIn True.intro e (fun z=>nomatch z) fin
 | str y=>obtain⟨t,q'⟩:=(show ∃t,u=Value.str y t from ru);cases q';exact PySem.W.kia_one PySem.W.kitx_str I.kIn True.intro e (fun z=>nomatch z) fin
 | @lst a xs ds q1 q2 =>
  cases (show u=Value.ref a from ru)
  obtain⟨its,_,⟨o,n',e1,hc,_⟩,_⟩:=I.list q1
  exact PySem.W.kia_one PySem.W.kitx_list I.kIn ⟨o,e1,hc⟩ e (fun z=>nomatch z) fin
 | @tup a xs ds q1 q2 =>
  cases (show u=Value.ref a from ru)
  obtain⟨its,_,⟨o,e1,hc,_⟩,_⟩:=I.tuple q1
  exact PySem.W.kia_one PySem.W.kitx_tuple I.kIn ⟨o,e1,hc⟩ e (fun z=>nomatch z) fin
end
end L2
namespace L2
open PySem PySem.Spec PyProof.Rows
def zgy (fs:Scope)(N:List Str)(scope:Scope)(caps:List Nat):Bool :=
 (scope.kind == .function)&&(scope.names.all fun y=>y.2 != .cell || scope.names.lookup y.1 == some .cell)&&(scope.names.all fun y=>y.2 != .local || scope.names.lookup y.1 == some .local) &&
 (scope.names.all fun y=>y.2 != .free || fs.names.lookup y.1 == some .cell || fs.names.lookup y.1 == some .free) &&
 (caps.all fun i=>match N[i]? with|some y=>scope.names.lookup y == some .free|none=>false)
theorem yQ {X:Cx}{fs scope:Scope}{N:List Str}{caps:List Nat}(hs:X.env.scope=fs)(hN:X.N=N)(h:zgy fs N scope caps=true):CompOk X scope caps:=by
 unfold zgy at h
 simp only[Bool.and_eq_true,List.all_eq_true] at h
 obtain⟨⟨⟨⟨h1,h2⟩,h3⟩,h4⟩,h5⟩:=h
 refine⟨by simpa using h1,fun y hy e=>?_,fun y hy e=>?_,fun y hy e=>?_,fun i hi=>?_⟩
 ·have:=h2 y hy
  rw[e] at this
  simpa using this
 ·have:=h3 y hy
  rw[e] at this
  simpa using this
 ·have:=h4 y hy
  rw[e] at this
  unfold Env.kindOf
  rw[hs]
  simpa using this
 ·have:=h5 i hi
  rw[hN]
  cases e:N[i]? with
  | none=>rw[e] at this;simp at this
  | some y=>rw[e] at this;exact⟨y,rfl,by simpa using this⟩
theorem u0 {X:Cx}{N:List Str}(h:X.N=N)(n:N.Nodup):X.N.Nodup:=h▸n
structure Dn (K:PySem.W.Frag)(mg:Str→Option Value)(x:Str)(st:Stmt)(ps:List Str) where
 f:Addr
 fd:FuncData
 fn:Fun K x x st f fd
 mg:mg x=some (.ref f)
 bd:Binds K fd ps []
end L2
namespace L2
open PySem PySem.Spec PyProof.Rows
section
variable {X:Cx}{pins:List (Addr×Obj)}{σ:St}{H:Hp}{s:Shared}{h':Heap}
theorem Inv.turnedL {t':Nat}{fp:List Addr}(I:Inv X pins σ H s)(k:∀b o,b∉fp→s.heap.get? b=some o→h'.get? b=some o)(hf:∀b∈fp,zhZ X pins H b):Inv X pins σ H {s with heap:=h',toks:=t'}:=by
 have nit:∀b u,H b=some u→b∉fp:=fun b u e z=>by rw[(hf b z).1] at e;cases e
 have nl:X.env.locals∉fp:=fun z=>(hf _ z).2.1 rfl
 refine I.step (g':=s.gens) (d':=s.drawn) (ch:=fp) (fun b hb=>?_) (fun b o _ _ hc e _=>k b o hc e) (fun b o _ _ hc e _=>⟨o.slots,k b o hc e⟩) (fun _ _ _ _ n=>n)
  (fun b o hc e=>⟨o,k b o hc e⟩) (fun _ _ e=>e) (fun _ _ _ e=>e) (fun b ps e=>⟨#[],by rw[e];simp⟩) (fun m hm=>?_) (fun b u e=>?_) I.bare
 ·obtain⟨_,f1,_,f3,f4,f5⟩:=hf b hb
  exact⟨f3,f1,f4,f5⟩
 ·obtain⟨o,es,ep,ho,r⟩:=hm
  exact⟨o,es,ep,k _ o nl ho,r⟩
 ·refine(I.hok b u e).stay (fun c v hc q=>k c v ?_ q) (fun _ q=>q) fun _ _ q=>q
  rcases hc with z|z
  ·rw[z];exact nit b u e
  ·exact nit c _ z
end
theorem ziO (n:Nat):Zp.Apart (n+4:Nat) (n+2:Nat) (n+3:Nat) n (n+1:Nat) :=
 ⟨yt (by omega),yt (by omega),yt (by omega),yt (by omega),yt (by omega),yt (by omega),yt (by omega),yt (by omega),yt (by omega),yt (by omega)⟩
def fpZ (n:Nat):List Addr:=[(n+4:Nat),(n+2:Nat),(n+3:Nat),n,(n+1:Nat)]
section
variable {prog:Program}{w:World}{A:Around}
theorem ze1 {it t:Addr}{i:Nat}{items:Array Value}{x:Value}(hne:t≠it)(hx:items[i]? = some x) :
  Zp.Yields prog w A it (fun h=>h.IsListIter it t i∧h.IsList t items) (fun v=>v=x) (fun h=>h.IsListIter it t (i+1)∧h.IsList t items) :=
 fun s Q E g hQ=>Zp.nextOf_list_item g.1 g.2 hx fun h' st sb=>hQ _ h' s.toks rfl ⟨st,g.2.extBut sb.extBut hne⟩ sb
theorem zhA {it t:Addr}{i:Nat}{items:Array Value}(hh:A.handled=none)(hx:items[i]? = none) :
  Zp.Ends prog w A it (fun h=>h.IsListIter it t i∧h.IsList t items) :=
 fun s Q E g hE=>Zp.nextOf_list_end hh g.1 g.2 hx hE
end
def Kp (it n:Nat)(h h':Heap):Prop:=∀(c:Addr) o,(c=it∨(c:Nat)<n)→h.get? c=some o→h'.get? c=some o
structure ZS (P:Program)(w:World)(K:PySem.W.Frag)(xs:List V)(G:Hp→Prop)(n it:Nat)(S:Nat→Heap→Prop):Prop where
 obj:∀i h,S i h→∃o,h.get? (it:Addr)=some o∧∀v,o.data≠.cell v
 keep:∀i h h',S i h→(∀o,h.get? (it:Addr)=some o→h'.get? (it:Addr)=some o)→S i h'
 yld:∀(X:Cx),X.prog=P→X.w=w→X.K=K→∀(pins:List (Addr×Obj)) (s:Shared) (σ:St) (H:Hp) (i:Nat) (x:V),Inv X pins σ H s→G H→xs[i]? = some x→S i s.heap→∃G1 S1:Heap→Prop,
  (∀A,Zp.Yields P w A (it:Addr) G1 (RelV x) S1)∧(∀h',Kp it n s.heap h'→G1 h')∧(∀h h',S1 h→Kp it n h h'→S1 h')∧∀h,S1 h→S (i+1) h
 ends:∀(X:Cx),X.prog=P→X.w=w→X.K=K→∀(pins:List (Addr×Obj)) (s:Shared) (σ:St) (H:Hp) (i:Nat),Inv X pins σ H s→G H→xs.length≤i→S i s.heap→∃G1:Heap→Prop,
  (∀A:Around,A.handled=none→Zp.Ends P w A (it:Addr) G1)∧∀h',Kp it n s.heap h'→G1 h'
theorem zk2 {P:Program}{w:World}{K:PySem.W.Frag}{xs:List V}{n it l:Nat}(hl:l<n)(hi:n≤it):ZS P w K xs (fun H=>SqT K H l xs) n it (fun i h=>h.IsTupleIter it l i) where
 obj:=fun i h ⟨o,e,c,d⟩=>⟨o,e,fun v z=>by rw[d] at z;cases z⟩
 keep:=fun i h h' z kk=>z.at kk
 yld:=by
  intro X hP hw hK pins s σ H i x I g hx st
  subst hP hw hK
  obtain⟨its,rv,pl,_⟩:=I.tuple g
  obtain⟨u,hu,ru⟩:=rv.get hx
  have p1:s.heap.IsTuple l its.toArray:=pl
  have ne:(l:Addr)≠(it:Addr):=yt (.inl (by omega))
  refine⟨fun h=>h.IsTupleIter it l i∧h.IsTuple l its.toArray,fun h=>h.IsTupleIter it l (i+1)∧h.IsTuple l its.toArray,fun A s Q E g hQ=>Zp.yields_tuple (items:=its.toArray) (i:=i) (x:=u) ne (by simpa using hu) s Q E g fun v h' tk e=>hQ v h' tk (e▸ru),fun h' kk=>⟨?_,?_⟩,fun h h' ⟨a,b⟩ kk=>⟨a.at fun o e=>kk _ _ (.inl rfl) e,?_⟩,fun h z=>z.1⟩
  ·exact st.at fun o e=>kk _ _ (.inl rfl) e
  ·obtain⟨o,e,r⟩:=p1;exact⟨o,kk _ _ (.inr hl) e,r⟩
  ·obtain⟨o,e,r⟩:=b;exact⟨o,kk _ _ (.inr hl) e,r⟩
 ends:=by
  intro X hP hw hK pins s σ H i I g hx st
  subst hP hw hK
  obtain⟨its,rv,pl,_⟩:=I.tuple g
  have p1:s.heap.IsTuple l its.toArray:=pl
  have len:=rv.length
  refine⟨_,fun A hh=>Zp.ends_tuple (t:=l) (i:=i) (items:=its.toArray) hh (by simpa using (show its.length≤i by omega)),fun h' kk=>⟨st.at fun o e=>kk _ _ (.inl rfl) e,?_⟩⟩
  obtain⟨o,e,r⟩:=p1;exact⟨o,kk _ _ (.inr hl) e,r⟩
theorem zkO {P:Program}{w:World}{K:PySem.W.Frag}{xs:List V}{n it l:Nat}(hl:l<n)(hi:n≤it):ZS P w K xs (fun H=>SqL K H l xs) n it (fun i h=>h.IsListIter it l i) where
 obj:=fun i h ⟨o,e,c,d⟩=>⟨o,e,fun v z=>by rw[d] at z;cases z⟩
 keep:=fun i h h' z kk=>z.at kk
 yld:=by
  intro X hP hw hK pins s σ H i x I g hx st
  subst hP hw hK
  obtain⟨its,rv,pl,_⟩:=I.list g
  obtain⟨u,hu,ru⟩:=rv.get hx
  have p1:s.heap.IsList l its.toArray:=pl.isList
  have ne:(l:Addr)≠(it:Addr):=yt (.inl (by omega))
  refine⟨fun h=>h.IsListIter it l i∧h.IsList l its.toArray,fun h=>h.IsListIter it l (i+1)∧h.IsList l its.toArray,fun A s Q E g hQ=>ze1 (items:=its.toArray) (i:=i) (x:=u) ne (by simpa using hu) s Q E g fun v h' tk e=>hQ v h' tk (e▸ru),fun h' kk=>⟨?_,?_⟩,fun h h' ⟨a,b⟩ kk=>⟨a.at fun o e=>kk _ _ (.inl rfl) e,?_⟩,fun h z=>z.1⟩
  ·exact st.at fun o e=>kk _ _ (.inl rfl) e
  ·obtain⟨o,e,r⟩:=p1;exact⟨o,kk _ _ (.inr hl) e,r⟩
  ·obtain⟨o,e,r⟩:=b;exact⟨o,kk _ _ (.inr hl) e,r⟩
 ends:=by
  intro X hP hw hK pins s σ H i I g hx st
  subst hP hw hK
  obtain⟨its,rv,pl,_⟩:=I.list g
  have p1:s.heap.IsList l its.toArray:=pl.isList
  have len:=rv.length
  refine⟨_,fun A hh=>zhA (t:=l) (i:=i) (items:=its.toArray) hh (by simpa using (show its.length≤i by omega)),fun h' kk=>⟨st.at fun o e=>kk _ _ (.inl rfl) e,?_⟩⟩
  obtain⟨o,e,r⟩:=p1;exact⟨o,kk _ _ (.inr hl) e,r⟩
def vC (l:List Nat):List V:=l.map fun c=>V.str (T [c])
theorem zlP {P:Program}{w:World}{K:PySem.W.Frag}{l:List Nat}{t:Tok}{n it:Nat}:ZS P w K (vC l) (fun _=>True) n it (fun i h=>h.IsStrIter it "str_ascii_iterator" (T l) t i) where
 obj:=fun i h z=>by obtain⟨o,e,c,d⟩:=z;exact⟨o,e,fun v z=>by rw[d] at z;cases z⟩
 keep:=fun i h h' z kk=>by obtain⟨o,e,c,d⟩:=z;exact⟨o,kk o e,c,d⟩
 yld:=by
  intro X hP hw hK pins s σ H i x I g hx st
  subst hP hw hK
  unfold vC at hx
  rw[List.getElem?_map] at hx
  cases ec:l[i]? with
  | none=>rw[ec] at hx;cases hx
  | some c =>
   rw[ec] at hx
   cases hx
   refine⟨fun h=>h.IsStrIter it "str_ascii_iterator" (T l) t i,fun h=>h.IsStrIter it "str_ascii_iterator" (T l) t (i+1),fun A s Q E g hQ=>Zp.yields_ascii (x:=T l) (t:=t) (i:=i) (c:=c) (by show l.toArray[i]? = _;simpa using ec) s Q E g fun v h' tk e=>hQ v h' tk ?_,fun h' kk=>?_,fun h h' z kk=>?_,fun h z=>z⟩
   ·obtain⟨u,rfl⟩:=e;exact⟨u,rfl⟩
   ·obtain⟨o,e,c,d⟩:=st;exact⟨o,kk _ _ (.inl rfl) e,c,d⟩
   ·obtain⟨o,e,c,d⟩:=z;exact⟨o,kk _ _ (.inl rfl) e,c,d⟩
 ends:=by
  intro X hP hw hK pins s σ H i I g hx st
  subst hP hw hK
  have hl:l.length≤i:=by simpa [vC] using hx
  refine⟨_,fun A hh=>Zp.ends_ascii (x:=T l) (t:=t) (i:=i) hh (by show l.toArray[i]? = none;simpa using hl),fun h' kk=>?_⟩
  obtain⟨o,e,c,d⟩:=st;exact⟨o,kk _ _ (.inl rfl) e,c,d⟩
def zl0 (G1 G2:Hp→Prop)(xs ys:List V):It :=
 ⟨fun i H=>G1 H∧G2 H∧i<min xs.length ys.length,fun i H v H'=>∃p x y,H p=none∧xs[i]? = some x∧ys[i]? = some y∧v=.ref p∧H'=upd H p (.tup [x,y]),fun i H=>G1 H∧G2 H∧min xs.length ys.length≤i⟩
def zng (n:Nat)(S1 S2:Nat→Heap→Prop)(i:Nat)(h:Heap):Prop:=∃a b f1,Zp.IsZipF h (n+4:Nat) (n+2:Nat) (n+3:Nat) .none f1∧IsPair h (n+2:Nat) (.ref n) (.ref (n+1:Nat))∧IsPair h (n+3:Nat) a b∧S1 i h∧S2 i h
theorem zgH {P:Program}{w:World}{K:PySem.W.Frag}{elts:List Expr}{k:Nat}{pos:Pos}{n:Nat}{xs ys:List V}{G1 G2:Hp→Prop}{S1 S2:Nat→Heap→Prop}(A1:ZS P w K xs G1 n n S1)(A2:ZS P w K ys G2 n (n+1) S2) :
  Turn P w K (.Tuple elts k pos) (zl0 G1 G2 xs ys) (fpZ n) (n+4:Nat) (zng n S1 S2) where
 mem:=by simp[fpZ]
 obj:=fun i h ⟨a,b,f1,z1,z2,z3,z4,z5⟩ c hc=>by
  simp only[fpZ,List.mem_cons,List.mem_nil_iff,or_false] at hc
  rcases hc with rfl|rfl|rfl|rfl|rfl
  ·exact⟨_,z1,fun v z=>by cases z⟩
  ·exact⟨_,z2,fun v z=>by cases z⟩
  ·exact⟨_,z3,fun v z=>by cases z⟩
  ·exact A1.obj i h z4
  ·exact A2.obj i h z5
 keep:=fun i h h' ⟨a,b,f1,z1,z2,z3,z4,z5⟩ kk=>by
  refine⟨a,b,f1,kk _ (by simp[fpZ]) _ z1,kk _ (by simp[fpZ]) _ z2,kk _ (by simp[fpZ]) _ z3,A1.keep i h h' z4 fun o e=>kk _ (by simp[fpZ]) o e,A2.keep i h h' z5 fun o e=>kk _ (by simp[fpZ]) o e⟩
 item := by
  intro X hP hw hK hc i pins s σ H E I hf st hg
  obtain⟨q1,q2,hi⟩:=hg
  have i1:i<xs.length:=by omega
  have i2:i<ys.length:=by omega
  obtain⟨a,b,f1,z1,z2,z3,z4,z5⟩:=st
  obtain⟨Ga,Sa,Y1,ga,sa,ta⟩:=A1.yld X hP hw hK pins s σ H i _ I q1 (List.getElem?_eq_getElem i1) z4
  obtain⟨Gb,Sb,Y2,gb,sb',tb⟩:=A2.yld X hP hw hK pins s σ H i _ I q2 (List.getElem?_eq_getElem i2) z5
  subst hP hw hK
  have hT:s.TypeIs (.ref ((n+4:Nat):Addr)) "zip" := ⟨_,z1,rfl⟩
  unfold pyNext
  refine wpAny_bind (wpAny_attempt (wpAny_callSpecial?_slot (name:=Str.ofString "__next__") hT PySem.F.slot_zip_next
   (wpAny_call_entry PySem.F.slot_zip_next hT PySem.F.entry_zip_next ?_ (PySem.F.args_zip_next_1 _))))
  have D:=ziO n
  have nn:∀{c:Addr}{k:Nat},(c:Nat)<n→c≠((n+k:Nat):Addr):=fun {c k} hc=>yt (.inl (Nat.lt_of_lt_of_le hc (Nat.le_add_right _ _)))
  refine Zp.next_item D z1 z2 z3 (Y1 _) (Y2 _) ?_ ?_ ?_ ?_ ?_
  ·refine fun h' kk=>ga h' fun c o hc e=>kk c o ?_ e
   rcases hc with rfl|hc
   ·exact D.i1z
   ·exact nn hc
  ·refine fun h' kk=>gb h' fun c o hc e=>?_
   rcases hc with rfl|hc
   ·exact kk _ _ D.i2z D.TOi2.symm D.i12.symm e
   ·exact kk _ _ (nn hc) (nn hc) (nn (k:=0) hc) e
  ·refine fun h h' z kk=>sa h h' z fun c o hc e=>?_
   rcases hc with rfl|hc
   ·exact kk _ _ D.i1z D.TOi1.symm D.i12 e
   ·exact kk _ _ (nn hc) (nn hc) (nn hc) e
  ·refine fun h h' z kk=>sb' h h' z fun c o hc e=>?_
   rcases hc with rfl|hc
   ·exact kk _ _ D.i2z D.TOi2.symm e
   ·exact kk _ _ (nn hc) (nn hc) e
  ·rintro v1 v2 h' tk ru1 ru2 z' to' s1 s2 hp hsz kk
   refine wpAny_pure ⟨_,rfl,?_⟩
   refine wpAny_letOwnedTupleGo_zip (s:={s with heap:=h',toks:=tk}) z' fun h2 zz sb=>?_
   obtain⟨o1,e1,_⟩:=A1.obj _ _ z4
   obtain⟨o2,e2,_⟩:=A2.obj _ _ z5
   have nz:∀c:Addr,c=s.heap.objs.size→c∉fpZ n:=fun c e hc=>by
    have:=(hf c hc).1
    obtain ⟨o,ho,_⟩:∃o,s.heap.get? c=some o∧True:=by
     simp only[fpZ,List.mem_cons,List.mem_nil_iff,or_false] at hc
     rcases hc with rfl|rfl|rfl|rfl|rfl
     ·exact⟨_,z1,trivial⟩
     ·exact⟨_,z2,trivial⟩
     ·exact⟨_,z3,trivial⟩
     ·exact⟨_,e1,trivial⟩
     ·exact⟨_,e2,trivial⟩
    rw[e] at ho
    exact absurd (Heap.lt_size ho) (Nat.lt_irrefl _)
   have szz:s.heap.objs.size≠((n+4:Nat):Addr):=fun e=>nz _ rfl (by rw[e];simp[fpZ])
   have I1:Inv X pins σ H {s with heap:=h2,toks:=tk}:=I.turnedL (fp:=fpZ n) (fun c o hc e=>by
    have hc':c≠((n+4:Nat):Addr)∧c≠((n+2:Nat):Addr)∧c≠((n+3:Nat):Addr)∧c≠(n:Addr)∧c≠((n+1:Nat):Addr):=by
     simpa [fpZ] using hc
    exact sb.extBut _ _ hc'.1 (kk c o hc'.1 hc'.2.2.1 hc'.2.2.2.1 hc'.2.2.2.2 e)) hf
   have hfree:H s.heap.objs.size=none:=I.hok.fresh (Nat.le_refl _)
   have hpair:h2.get? s.heap.objs.size=some {cls:=.type "tuple", data:=.seq #[v1,v2]}:=sb.extBut _ _ szz hp
   have I2:Inv X pins σ (upd H s.heap.objs.size (.tup [xs[i],ys[i]])) {s with heap:=h2,toks:=tk}:=I1.track hfree (.inr I.sz) (Nat.ne_of_gt I.lt) (fun x c e=>by
     obtain⟨v,o,ho,_⟩:=I.cell x c e
     exact Nat.ne_of_lt (Heap.lt_size ho)) (fun p hp=>Nat.ne_of_lt (Heap.lt_size (I.pin p hp).1))
    ⟨by show 2≤sizeLine;decide,[v1,v2],.cons ru1 (.cons ru2 .nil),_,hpair,rfl,⟨_,rfl⟩,rfl⟩
   refine⟨.ref s.heap.objs.size,_,I2,rfl,⟨_,_,_,hfree,List.getElem?_eq_getElem i1,List.getElem?_eq_getElem i2,rfl,rfl⟩,⟨v1,v2,.bool false,zz,sb.extBut _ _ D.TIz (kk _ _ D.TIz D.TITO D.TIi1 D.TIi2 z2),sb.extBut _ _ D.TOz to',?_,?_⟩,fun b hb=>?_⟩
   ·exact A1.keep _ _ _ (ta _ s1) fun o e=>sb.extBut _ _ D.i1z e
   ·exact A2.keep _ _ _ (tb _ s2) fun o e=>sb.extBut _ _ D.i2z e
   ·rw[zU (fun e=>nz b e hb)]
    exact(hf b hb).1
 done:=by
  intro X hP hw hK hc i pins s σ H E I hf st hg
  obtain⟨q1,q2,hi⟩:=hg
  obtain⟨a,b,f1,z1,z2,z3,z4,z5⟩:=st
  have hT:s.TypeIs (.ref ((n+4:Nat):Addr)) "zip" := ⟨_,z1,rfl⟩
  have D:=ziO n
  have nn:∀{c:Addr}{k:Nat},(c:Nat)<n→c≠((n+k:Nat):Addr):=fun {c k} hc=>yt (.inl (Nat.lt_of_lt_of_le hc (Nat.le_add_right _ _)))
  have hh:=I.ok.hd hc
  have key:∃Ga Gb:Heap→Prop,(Zp.Ends X.prog X.w X.A.in1 (n:Addr) Ga∨(Zp.Yields X.prog X.w X.A.in1 (n:Addr) Ga (fun _=>True) (fun _=>True)∧Zp.Ends X.prog X.w X.A.in1 ((n+1:Nat):Addr) Gb))∧(∀h',Kp n n s.heap h'→Ga h')∧(∀h',Kp (n+1) n s.heap h'→Gb h'):=by
   by_cases h1:xs.length≤i
   ·obtain⟨Ga,y,g⟩:=A1.ends X hP hw hK pins s σ H i I q1 h1 z4
    subst hP hw
    exact⟨Ga,fun _=>True,.inl (y _ hh),g,fun _ _=>trivial⟩
   ·obtain⟨Ga,Sa,Y1,ga,sa,ta⟩:=A1.yld X hP hw hK pins s σ H i _ I q1 (List.getElem?_eq_getElem (Nat.lt_of_not_le h1)) z4
    obtain⟨Gb,y,g⟩:=A2.ends X hP hw hK pins s σ H i I q2 (by omega) z5
    subst hP hw
    exact⟨Ga,Gb,.inr ⟨fun s Q E g hQ=>Y1 _ s Q E g fun v h' tk _ _ sb=>hQ v h' tk trivial trivial sb,y _ hh⟩,ga,g⟩
  obtain⟨Ga,Gb,hend',ga,gb⟩:=key
  subst hP hw hK
  unfold pyNext
  refine wpAny_bind (wpAny_attempt (wpAny_callSpecial?_slot (name:=Str.ofString "__next__") hT PySem.F.slot_zip_next
   (wpAny_call_entry PySem.F.slot_zip_next hT PySem.F.entry_zip_next (Zp.next_end D z1 z2 z3 hend' ?_ ?_ ?_) (PySem.F.args_zip_next_1 _))))
  ·refine fun h' kk=>ga h' fun c o hc e=>kk c o ?_ e
   rcases hc with rfl|hc
   ·exact D.i1z
   ·exact nn hc
  ·refine fun h' kk=>gb h' fun c o hc e=>?_
   rcases hc with rfl|hc
   ·exact kk _ _ D.i2z D.TOi2.symm D.i12.symm e
   ·exact kk _ _ (nn hc) (nn hc) (nn (k:=0) hc) e
  ·intro h' tk e kk he
   obtain⟨o,ho,hc⟩:=he
   refine wpAny_bind (wpAny_isInstance (T := "StopIteration") (b:=true) ⟨o,ho,hc⟩ isSubtype_stop ?_)
   refine wpAny_pure ⟨rfl,I.turnedL (fp:=fpZ n) (fun c o hc e=>?_) hf⟩
   have hc':c≠((n+4:Nat):Addr)∧c≠((n+2:Nat):Addr)∧c≠((n+3:Nat):Addr)∧c≠(n:Addr)∧c≠((n+1:Nat):Addr):=by
    simpa [fpZ] using hc
   exact kk c o hc'.1 hc'.2.2.1 hc'.2.2.2.1 hc'.2.2.2.2 e
 self:=fun A i s Q E ⟨a,b,f1,z1,z2,z3,z4,z5⟩ h=>by
  have hT:s.TypeIs (.ref ((n+4:Nat):Addr)) "zip" := ⟨_,z1,rfl⟩
  refine wpAny_pyIter_slot hT PySem.F.slot_zip_iter (wpAny_call_entry PySem.F.slot_zip_iter hT PySem.F.entry_zip_iter ?_ (PySem.F.args_zip_iter_1 _))
  show wpAny _ _ (ret (.ref ((n+4:Nat):Addr))) _ _ s
  exact wpAny_pure ⟨_,rfl, "zip", _,hT,PySem.F.slot_zip_next.lookup,h⟩
def Itu (u:Value)(o:Obj)(G:Heap→Prop):Prop:=∀(prog:Program) (w:World) (A:Around) (s:Shared) (Q:Value→Shared→Prop) (E:Value→Shared→Prop),G s.heap→Q (.ref s.heap.objs.size) {s with heap:=s.heap.push o}→wpAny (model prog w) A (pyIter u) Q E s
section
variable {prog:Program}{w:World}{A:Around}{E:Value→Shared→Prop}{s:Shared}
theorem zhN {u1 u2:Value}{o1 o2:Obj}{G1 G2:Heap→Prop}(b1:Itu u1 o1 G1)(b2:Itu u2 o2 G2)(up:∀h,G2 h→G2 (h.push o1)) :
  Meets (Builtin.«zip.__new__» ⟨[.type "zip", u1,u2],[]⟩) (fun _ R s=>G1 s.heap∧G2 s.heap ∧
   R (.ok (.ret (.ref (Zp.zH4 s.heap o1 o2).objs.size))) {s with heap:=Zp.zH5 s.heap o1 o2}) :=
 .of_wp fun prog w A R s h=>by
  obtain⟨hl1,hl2,h⟩:=h
  have z3:(Zp.zH3 s.heap o1 o2).objs.size=(Zp.zH2 s.heap o1 o2).objs.size+1:=Heap.size_push ..
  have z4:(Zp.zH4 s.heap o1 o2).objs.size=(Zp.zH2 s.heap o1 o2).objs.size+2:=by rw[Heap.size_push,z3]
  refine Zp.meets_st_aux (h1:=s.heap.push o1) (h2:=Zp.zH2 s.heap o1 o2) (i1:=s.heap.objs.size) (i2:=(s.heap.push o1).objs.size)
   (fun Q E q=>b1 prog w A.in1 s Q E hl1 q) (fun Q E q=>b2 prog w A.in1 {s with heap:=s.heap.push o1} Q E (up _ hl2) q) ⟨_,rfl,?_⟩
  rw[← z4,← z3]
  exact h
theorem zgD {u1 u2:Value}{o1 o2:Obj}{G1 G2:Heap→Prop}{Q:Value→Shared→Prop}(f1:o1.isFreed=false)(f2:o2.isFreed=false)(b1:Itu u1 o1 G1)(b2:Itu u2 o2 G2)(up:∀h,G2 h→G2 (h.push o1))(hl1:G1 s.heap)(hl2:G2 s.heap)
  (h:∀h',Zp.Made5 s.heap h' o1 o2→Q (.ref (s.heap.objs.size+4)) {s with heap:=h'}) :
  wpAny (model prog w) A (call (.type "zip") [u1,u2]) Q E s:=by
 refine callType_new F.called_zip (by decide) (F.typeCall_zip_2 _ _) (F.newCall_zip_2 _ _) (fun obj=>F.args_object_init_3 obj _ _) F.entry_zip_new
  (zhN b1 b2 up) ⟨hl1,hl2,?_⟩
 obtain⟨m,z4⟩:=Zp.made5 s.heap o1 o2 f1 f2
 show _∧_
 rw[z4]
 exact⟨⟨_,m.1,rfl⟩,h _ m⟩
end
def zj5 (K:PySem.W.Frag)(H:Hp)(v:V)(xs:List V)(G:Hp→Prop):Prop :=
 (∃l,v=.ref l∧SqT K H l xs∧G=fun H=>SqT K H l xs)∨(∃l,v=.ref l∧SqL K H l xs∧G=fun H=>SqL K H l xs)∨(∃l,v=.str (T l)∧(∀c∈l,c<128)∧xs=vC l∧G=fun _=>True)
theorem zmW {X:Cx}{pins:List (Addr×Obj)}{s:Shared}{σ:St}{H:Hp}{v:V}{u:Value}{xs:List V}{G:Hp→Prop}(I:Inv X pins σ H s)(z:zj5 X.K H v xs G)(r:RelV v u):G H∧∃(o:Obj) (C:Heap→Prop),o.isFreed=false∧C s.heap∧(∀h o',C h→C (h.push o'))∧Itu u o C ∧
  ∀it:Nat,s.heap.objs.size≤it→∃S,ZS X.prog X.w X.K xs G s.heap.objs.size it S∧∀h:Heap,h.get? (it:Addr)=some o→S 0 h:=by
 rcases z with⟨l,rfl,q,rfl⟩|⟨l,rfl,q,rfl⟩|⟨l,rfl,ha,rfl,rfl⟩
 ·cases r
  obtain⟨its,rv,pl,_⟩:=I.tuple q
  have p1:s.heap.IsTuple l its.toArray:=pl
  have lt1:l<s.heap.objs.size:=by obtain⟨o,e,_⟩:=p1;exact Heap.lt_size e
  exact⟨q,Zp.tIter l,fun h=>h.IsTuple l its.toArray,rfl,p1,fun h o' ⟨o,e,r⟩=>⟨o,Heap.get?_push_of_some _ e,r⟩,fun _ _ _ _ _ _ g q=>wpAny_pyIter_tuple g q,fun it hit=>⟨_,zk2 lt1 hit,fun h e=>⟨_,e,rfl,rfl⟩⟩⟩
 ·cases r
  obtain⟨its,rv,pl,_⟩:=I.list q
  have p1:s.heap.IsList l its.toArray:=pl.isList
  have lt1:l<s.heap.objs.size:=by obtain⟨o,e,_⟩:=p1;exact Heap.lt_size e
  exact⟨q,Zp.lIter l,fun h=>h.IsList l its.toArray,rfl,p1,fun h o' ⟨o,e,r⟩=>⟨o,Heap.get?_push_of_some _ e,r⟩,fun _ _ _ _ _ _ g q=>wpAny_pyIter_list g q,fun it hit=>⟨_,zkO lt1 hit,fun h e=>⟨_,e,rfl,rfl⟩⟩⟩
 ·obtain ⟨t,rfl⟩:=r
  have ha':(T l).cps.all (· < 128)=true:=by
   simp only[T,List.all_toArray,List.all_eq_true,decide_eq_true_eq]
   exact ha
  exact⟨trivial,Zp.sIter (T l) t,fun _=>True,rfl,trivial,fun _ _ _=>trivial,fun _ _ _ _ _ _ _ q=>wpAny_pyIter_ascii ha' q,fun it hit=>⟨_,zlP,fun h e=>⟨_,e,rfl,rfl⟩⟩⟩
def Itz (K:PySem.W.Frag)(l1 l2:Addr)(xs ys:List V):It :=
 ⟨fun i H=>SqT K H l1 xs∧SqT K H l2 ys∧i<min xs.length ys.length,fun i H v H'=>∃p x y,H p=none∧xs[i]? = some x∧ys[i]? = some y∧v=.ref p∧H'=upd H p (.tup [x,y]),fun i H=>SqT K H l1 xs∧SqT K H l2 ys∧min xs.length ys.length≤i⟩
def zna (K:PySem.W.Frag)(ta tb:TE):TI:=fun σ H R=>jC ta (jC tb zjg) σ H fun vs H1=>∃l1 l2 xs ys,vs=[.ref l1,.ref l2]∧SqT K H1 l1 xs∧SqT K H1 l2 ys∧R (Itz K l1 l2 xs ys) H1
def zlF (K:PySem.W.Frag)(ta tb:TE):TI:=fun σ H R=>jC ta (jC tb zjg) σ H fun vs H1=>∃(v1 v2:V) (xs ys:List V) (G1 G2:Hp→Prop),vs=[v1,v2]∧zj5 K H1 v1 xs G1∧zj5 K H1 v2 ys G2∧R (zl0 G1 G2 xs ys) H1
section
variable {X:Cx}
theorem zfU {Z:List V→Hp→(It→Hp→Prop)→Prop}(hZ:∀vs H1 R,Z vs H1 R→∃(v1 v2:V) (xs ys:List V) (G1 G2:Hp→Prop),vs=[v1,v2]∧zj5 X.K H1 v1 xs G1∧zj5 X.K H1 v2 ys G2∧R (zl0 G1 G2 xs ys) H1){elts:List Expr}{k:Nat}{tpos:Pos}{a b:Expr}{ta tb:TE}{p pos:Pos}(hg:Gl X "zip")(hm:X.mg "zip" = none)(ha:PE X a ta)(hb:PE X b tb)
  (hs:starEach [a,b] X.env=[(false,eval a X.env),(false,eval b X.env)]:=by rfl) (hs2:starEach [b] X.env=[(false,eval b X.env)]:=by rfl) :
  PI X (.Tuple elts k tpos) (.Call (.Name "zip" p) [a,b] [] pos) (fun σ H R=>jC ta (jC tb zjg) σ H fun vs H1=>Z vs H1 R):=by
 intro pins s σ H R I h
 have hA:PA X [a,b] (jC ta (jC tb zjg)):=wA ha (wA hb uX hs2) (by rw[hs,hs2])
 refine wpAny_Call_Name_kw (zaj I hg hm boot_zip ?_)
 refine PyProof.Rows.callWith_type1 (thn (hA pos pins s σ H _ I h) fun us s1 hq34=>?_) (by rw[hs,hs2]) (by rw[hs2];rfl)
 obtain⟨vs,H2,I2,r2,zz⟩:=hq34
 obtain⟨v1,v2,xs,ys,G1,G2,ev,q1,q2,q⟩:=hZ _ _ _ zz
 subst ev
 obtain⟨u1,u2,rfl,ru1,ru2⟩:=vals2 r2
 obtain⟨g1,o1,C1,f1,c1,p1,b1,m1⟩:=zmW I2 q1 ru1
 obtain⟨g2,o2,C2,f2,c2,p2,b2,m2⟩:=zmW I2 q2 ru2
 obtain⟨S1,A1,st1⟩:=m1 s1.heap.objs.size (Nat.le_refl _)
 obtain⟨S2,A2,st2⟩:=m2 (s1.heap.objs.size+1) (Nat.le_succ _)
 refine zgD f1 f2 b1 b2 (fun h c=>p2 h _ c) c1 c2 fun h1 m5=>?_
 obtain⟨m1,m2,m3,m4,m6,m7,m8⟩:=m5
 have T:=zgH (P:=X.prog) (w:=X.w) (K:=X.K) (elts:=elts) (k:=k) (pos:=tpos) A1 A2
 refine T.self X.A 0 _ _ _ ⟨_,_,_,m1,m2,m3,st1 _ m4,st2 _ m6⟩ ?_
 have I3:Inv X pins σ H2 {s1 with heap:=h1}:=I2.kept (t':=s1.toks) m8
 refine⟨_,fpZ s1.heap.objs.size,_,zl0 G1 G2 xs ys,H2,rfl,I3,T,⟨_,_,_,m1,m2,m3,st1 _ m4,st2 _ m6⟩,fun c hc=>?_,q⟩
 have hge:s1.heap.objs.size≤c:=by
  simp only[fpZ,List.mem_cons,List.mem_nil_iff,or_false] at hc
  rcases hc with rfl|rfl|rfl|rfl|rfl
  ·exact Nat.le_add_right _ _
  ·exact Nat.le_add_right _ _
  ·exact Nat.le_add_right _ _
  ·exact Nat.le_refl _
  ·exact Nat.le_add_right _ _
 obtain⟨f0,f1,f2,f3,f4,f5⟩:=I2.fpOk hge (I2.hok.fresh hge)
 exact⟨f0,f1,f2,f3,f4,f5⟩
theorem zjc {elts:List Expr}{k:Nat}{tpos:Pos}{a b:Expr}{ta tb:TE}{p pos:Pos}(hg:Gl X "zip")(hm:X.mg "zip" = none)(ha:PE X a ta)(hb:PE X b tb)
  (hs:starEach [a,b] X.env=[(false,eval a X.env),(false,eval b X.env)]:=by rfl) (hs2:starEach [b] X.env=[(false,eval b X.env)]:=by rfl) :
  PI X (.Tuple elts k tpos) (.Call (.Name "zip" p) [a,b] [] pos) (zlF X.K ta tb):=zfU (fun _ _ _ z=>z) hg hm ha hb hs hs2
theorem zem {elts:List Expr}{k:Nat}{tpos:Pos}{a b:Expr}{ta tb:TE}{p pos:Pos}(hg:Gl X "zip")(hm:X.mg "zip" = none)(ha:PE X a ta)(hb:PE X b tb)
  (hs:starEach [a,b] X.env=[(false,eval a X.env),(false,eval b X.env)]:=by rfl) (hs2:starEach [b] X.env=[(false,eval b X.env)]:=by rfl) :
  PI X (.Tuple elts k tpos) (.Call (.Name "zip" p) [a,b] [] pos) (zna X.K ta tb):=zfU (fun vs H1 R ⟨l1,l2,xs,ys,e,q1,q2,r⟩=>⟨_,_,xs,ys,_,_,e,.inl ⟨l1,rfl,q1,rfl⟩,.inl ⟨l2,rfl,q2,rfl⟩,r⟩) hg hm ha hb hs hs2
end
end L2
namespace L2
open PySem PySem.Spec PyProof.Rows
def Srt (ls:List (List Nat)):Prop:=ls.Pairwise (·≤·)
theorem zdP {a b:List Nat}(h:ltCps b a=false):a≤b:=by
 rw[ltCps_eq] at h
 exact List.not_lt.mp (of_decide_eq_false h)
theorem zak:∀(p:Str) (l:List Str),risingS p l=true→(p::l).Pairwise fun a b=>a.cps.toList≤b.cps.toList
 | p,[],_=>by simp
 | p,x::r,h=>by
  have h':(!ltCps x.cps.toList p.cps.toList&&risingS x r)=true:=h
  rw[Bool.and_eq_true] at h'
  have h1:p.cps.toList≤x.cps.toList:=zdP (by simpa using h'.1)
  have h2:=zak x r h'.2
  refine List.pairwise_cons.mpr ⟨fun y hy=>?_,h2⟩
  rcases List.mem_cons.mp hy with rfl|hy
  ·exact h1
  ·exact List.le_trans h1 (List.rel_of_pairwise_cons h2 hy)
theorem ziz {ss:List Str}(h:sortedS ss=true):Srt (ss.map fun x=>x.cps.toList):=by
 unfold Srt
 rw[List.pairwise_map]
 cases ss with
 | nil=>simp
 | cons x r=>exact zak x r h
theorem zbd:∀{us:List Value}{ss:List Str},StrsAre us ss→Vals (ss.map V.str) us
 | _,_,.nil=>.nil
 | _,_,.cons x t h=>.cons ⟨t,rfl⟩ (zbd h)
def vT (ls:List (List Nat)):List V:=ls.map fun l=>V.str (T l)
theorem zeQ (ss:List Str):ss.map V.str=vT (ss.map fun x=>x.cps.toList):=by
 unfold vT
 rw[List.map_map]
 exact List.map_congr_left fun x _=>congrArg V.str (znc x).symm
theorem zm3 (ls:List (List Nat)):vT ls=(ls.map T).map V.str:=by unfold vT;rw[List.map_map];rfl
section
variable {X:Cx}
theorem zc9:qR X (.builtin "sorted") (fun xs H Q=>∃a ls,xs=[.ref a]∧SqL X.K H a (vT ls)∧ls.length<64∧∀p ms,H p=none→ms.Perm ls→Srt ms→Q (.ref p) (upd H p (.lst (vT ms)))):=by
 intro pins s σ H xs us Q I r h
 obtain⟨a,ls,rfl,ha,h64,q⟩:=h
 obtain⟨u,rfl,ru⟩:=vals1 r
 cases ru
 obtain⟨its,rv,pl,hz⟩:=I.list ha
 rw[zm3] at rv
 have hl:=rv.length
 simp only[List.length_map] at hl
 refine sorted_strs pl.isList (jN rv) (by omega) fun out ss' h1 h2 h3=>?_
 have hS:=ziz h3
 have hP:(ss'.map fun x=>x.cps.toList).Perm ls:=by
  have:=h2.map fun x:Str=>x.cps.toList
  rw[List.map_map] at this
  have e:ls.map ((fun x:Str=>x.cps.toList)∘T)=ls:=by
   have:((fun x:Str=>x.cps.toList)∘T)=id:=funext fun l=>jL l
   rw[this,List.map_id]
  rw[e] at this
  exact this
 obtain⟨c,hat⟩:=sortedAll_at s.heap its out
 have hlen:ss'.length=ls.length:=by have:=h2.length_eq;simpa using this
 refine⟨.ref (s.heap.objs.size+1),_,I.laid (t':=s.toks) (o:=.lst (vT (ss'.map fun x=>x.cps.toList))) (fun b o e=>sortedAll_old e) (Nat.le_succ _) ?_,rfl,q _ _ (I.hok.fresh (Nat.le_succ _)) hP hS⟩
 refine⟨?_,out.toList,c,?_,by simpa [seqObj] using hat⟩
 ·rw[← zeQ,List.length_map,sizeLine_eq];omega
 ·rw[← zeQ];exact zbd h1
theorem zfD:∀{xs:List V}{us:List Value},xs.length=us.length→(∀(j:Nat) x u,xs[j]? = some x→us[j]? = some u→RelV x u)→Vals xs us
 | [],[],_,_=>.nil
 | [],_::_,h,_=>by simp at h
 | _::_,[],h,_=>by simp at h
 | x::xs,u::us,h,k=>.cons (k 0 x u rfl rfl) (zfD (by simpa using h) fun j y v e1 e2=>k (j+1) y v (by simpa using e1) (by simpa using e2))
def zmt (lo c:Int)(n:Nat):It:=⟨fun i _=>i<n,fun i H x H'=>H'=H∧x=.int (lo+(i:Int)*c),fun i _=>n≤i⟩
theorem zfj {lo c:Int}{n:Nat}{G:Hp→Prop}:Wlk (zmt lo c n) G ((List.range n).map fun(k:Nat)=>V.int (lo+(k:Int)*c)):=fun H _=>by
 refine⟨fun i hi=>⟨by show i<n;simpa using hi,fun x H' y=>⟨y.1,?_⟩⟩,?_⟩
 ·have hi':i<n:=by simpa using hi
  rw[y.2];simp[hi']
 ·show n≤_;simp
theorem zdZ {P:Program}{w:World}{K:PySem.W.Frag}{tg:Expr}(it:Addr)(lo c:Int)(n:Nat):Turn P w K tg (zmt lo c n) [it] it (fun i h=>IsRangeIter h it (lo+(i:Nat)*c) ((n:Int) - (i:Nat)) c) where
 mem:=by simp
 obj:=fun i h st b hb=>by
  have e:b=it:=by simpa using hb
  subst e
  exact ⟨_,st,fun v z=>by
   have z':Data.fields _=Data.cell v:=z
   cases z'⟩
 keep:=fun i h h' st k=>k it (by simp) _ st
 item:=by
  intro X hP hw hK hc i pins s σ H E I hf st hg
  subst hP hw hK
  obtain⟨f0,f1,f2,f3,f4,f5⟩:=hf it (by simp)
  have W:=Walks.range (prog:=X.prog) (w:=X.w) (I.ok.hd hc) it lo c n
  refine W.item i s _ _ hg st fun v h' tk hv st' kk=>?_
  obtain⟨t,rfl⟩:=hv
  have I1:Inv X pins σ H {s with heap:=h',toks:=tk}:=I.turned (fun b o hb e=>kk b o (by simpa using hb) e) f0 f1 f3 f4 f5
  exact⟨_,rfl,zgw (s:={s with heap:=h',toks:=tk}) (n := "range_iterator") st' rfl rfl (by decide) ⟨.int (lo+i*c),H,I1,⟨t,rfl⟩,⟨rfl,rfl⟩,st',fun b hb=>(hf b hb).1⟩⟩
 done:=by
  intro X hP hw hK hc i pins s σ H E I hf st hg
  subst hP hw hK
  obtain⟨f0,f1,f2,f3,f4,f5⟩:=hf it (by simp)
  exact wpAny_pyNext_range_end (I.ok.hd hc) st (by have:n≤i:=hg;omega) fun h' eb=>⟨rfl,I.turned (t':=s.toks) (fun b o hb e=>eb b o hb e) f0 f1 f3 f4 f5⟩
 self:=fun _ _ _ _ _ st h=>wpAny_pyIter_rangeiter st h
def zl9 (ta:TA):TI:=fun σ H R=>ta σ H fun vs H1=>∃i j c:Int,vs=[.int i,.int j,.int c]∧0≤i∧i≤j∧j<2 ^ 20∧0<c∧c<2 ^ 20∧R (zmt i c ((j - i+c - 1) / c).toNat) H1
theorem zkJ {a b c:Int}(h0:0≤a)(h1:a≤b)(h2:b<2 ^ 20)(h3:0<c)(h4:c<2 ^ 20):Builtin.Range.small a b c=true:=by
 have hr:0≤Builtin.Range.rangeSize a b c∧Builtin.Range.rangeSize a b c≤2 ^ 20:=by
  unfold Builtin.Range.rangeSize
  rw[if_pos (show c > 0 from h3)]
  split
  ·have e1:0≤(b - a - 1) / c:=Int.ediv_nonneg (by omega) (by omega)
   have e2:(b - a - 1) / c≤b - a - 1:=Int.ediv_le_self _ (by omega)
   omega
  ·omega
 have hm:(Builtin.Range.rangeSize a b c)*c≤2 ^ 40:=by
  have:=Int.mul_le_mul hr.2 (Int.le_of_lt h4) (by omega) (by decide)
  have e:(2:Int) ^ 20*2 ^ 20=2 ^ 40:=by decide
  omega
 have hm0:0≤(Builtin.Range.rangeSize a b c)*c:=Int.mul_nonneg hr.1 (by omega)
 unfold Builtin.Range.small
 simp only[Builtin.Range.rangeFitsLong,Bool.and_eq_true,Bool.or_eq_true,decide_eq_true_eq,beq_iff_eq,if_pos (show c > 0 from h3)]
 generalize Builtin.Range.rangeSize a b c=n at *
 omega
theorem zfT {tg a b c:Expr}{ta:TA}{p pos:Pos}(hg:Gl X "range")(hm:X.mg "range" = none)(ha:PA X [a,b,c] ta)(hs:starEach [a,b,c] X.env=[(false,eval a X.env),(false,eval b X.env),(false,eval c X.env)]:=by rfl)(hs2:starEach [b,c] X.env=[(false,eval b X.env),(false,eval c X.env)]:=by rfl) :
  PI X tg (.Call (.Name "range" p) [a,b,c] [] pos) (zl9 ta):=by
 intro pins s σ H R I h
 refine Call_ (zaj I hg hm boot_range (PyProof.Rows.callWith_type1 (thn (ha pos pins s σ H _ I h) fun us s1 hq35=>?_) (by rw[hs,hs2]) (by rw[hs2];rfl)))
 obtain⟨vs,H1,I1,r1,q1⟩:=hq35
 obtain⟨i,j,c,e,h0,h1,h2,h3,h4,q⟩:=q1
 subst e
 cases r1 with
 | cons r rr =>
  cases rr with
  | cons r' rr =>
   cases rr with
   | cons r'' rr =>
    cases rr
    obtain⟨t,rfl⟩:=r
    obtain⟨t',rfl⟩:=r'
    obtain⟨t'',rfl⟩:=r''
    refine call_range_3 (by omega) ?_ (Or.inl (PyProof.noPylong_small (by omega)))
    refine wpAny_pyIter_range (IsRange.new ..) (zkJ h0 h1 h2 h3 h4) ?_
    have I2:Inv X pins σ H1 {s1 with heap:=s1.heap.push {cls:=.type "range", data:=.fields #[.int i t,.int j t',.int c t'']} }:=I1.kept (t':=s1.toks) fun b o e=>Heap.get?_push_of_some _ e
    refine ⟨(s1.heap.push {cls:=.type "range", data:=.fields #[.int i t,.int j t',.int c t'']}).objs.size,[(s1.heap.push {cls:=.type "range", data:=.fields #[.int i t,.int j t',.int c t'']}).objs.size],_,_,H1,rfl,
     I2.kept (t':=s1.toks) fun b o e=>Heap.get?_push_of_some _ e,zdZ _ i c _,?_,fun b hb=>?_,q⟩
    ·have e1:i+((0:Nat):Int)*c=i:=by simp
     have e2:(((((j - i+c - 1) / c).toNat:Nat):Int)) - ((0:Nat):Int)=Builtin.Range.rangeSize i j c:=by
      unfold Builtin.Range.rangeSize
      rw[if_pos (show c > 0 from h3)]
      have e3:(j - i+c - 1) / c=(j - i - 1) / c+1:=by
       have:j - i+c - 1=(j - i - 1)+c*1:=by omega
       rw[this,Int.add_mul_ediv_left _ _ (by omega)]
      split
      ·have:=Int.ediv_nonneg (show 0≤j - i - 1 by omega) (show 0≤c by omega)
       omega
      ·have:j - i - 1 = -1:=by omega
       rw[e3,this,Int.ediv_eq_neg_one_of_neg_of_le (by omega) (by omega)]
       simp
     show IsRangeIter _ _ (i+((0:Nat):Int)*c) (((((j - i+c - 1) / c).toNat:Nat):Int) - ((0:Nat):Int)) c
     rw[e1,e2]
     exact Heap.get?_push_size _ rfl
    ·have e:b=(s1.heap.push {cls:=.type "range", data:=.fields #[.int i t,.int j t',.int c t'']}).objs.size:=by simpa using hb
     subst e
     exact I2.fpOk (Nat.le_refl _) (I2.hok.fresh (Nat.le_refl _))
theorem zgn {K:PySem.W.Frag}{i j:Nat}{x y:Str}{px py pos:Pos}{k:Nat}(hK:X.K=K)(hc:X.calm=true)(hN:X.N.Nodup)(hi:X.N[i]? = some x)(hj:X.N[j]? = some y)(hx:Loc X.env.scope x)(hy:Loc X.env.scope y)
  (fx:X.fn x=true∨X.env.scope.names.lookup x=some .local:=by first|exact .inl rfl|exact .inr rfl|assumption) (fy:X.fn y=true∨X.env.scope.names.lookup y=some .local:=by first|exact .inl rfl|exact .inr rfl|assumption) :
  PG X (.Tuple [.Name x px,.Name y py] k pos) (zjt K 2 (j7 (qx i) (j7 (qx j) zjx))):=hK▸zkU hc (zeT (zQ hN hi hx fx) (zeT (zQ hN hj hy fy) zjv))
end
theorem zg5 {K:PySem.W.Frag}{l1 l2:Addr}{xs ys:List V}(hz:xs.length≤sizeLine){g:TG}{tt:TT}{te:TE}{σ0:St}{F:List V→Hp→Prop}{H1:Hp}(Pv:Nat→List V→Hp→Prop)(h0:Pv 0 [] H1)(hG:∀i vs H,Pv i vs H→SqT K H l1 xs∧SqT K H l2 ys∧vs.length≤i)
  (hs:∀i x y p vs H,xs[i]? = some x→ys[i]? = some y→H p=none→Pv i vs H→g (.ref p) σ0 (upd H p (.tup [x,y])) fun σ2 H2=>Kps σ0 σ2∧tt σ2 H2 fun b H3=>if b=true then te σ2 H3 fun v H4=>Pv (i+1) (vs++[v]) H4 else Pv (i+1) vs H3) (hd:∀vs H,Pv (min xs.length ys.length) vs H→F vs H) :
  jz g tt te σ0 F (Itz K l1 l2 xs ys) H1:=by
 refine⟨fun i m vs H=>m=min xs.length ys.length - i∧i≤min xs.length ys.length∧Pv i vs H,⟨_,rfl,Nat.zero_le _,h0⟩,?_⟩
 rintro i m vs H ⟨rfl,hi,p⟩
 obtain⟨q1,q2,hl⟩:=hG i vs H p
 refine⟨by omega,?_⟩
 by_cases hlt:i<min xs.length ys.length
 ·refine .inr ⟨⟨q1,q2,hlt⟩,by omega,Pv (i+1),fun vs' H' p'=>⟨min xs.length ys.length - (i+1),by omega,rfl,hlt,p'⟩,?_⟩
  rintro v H' ⟨a,x,y,e0,e1,e2,rfl,rfl⟩
  exact hs i x y a vs H e1 e2 e0 p
 ·have e:i=min xs.length ys.length:=by omega
  subst e
  exact .inl ⟨⟨q1,q2,Nat.le_refl _⟩,hd vs H p⟩
theorem zjZ {K:PySem.W.Frag}{l1 l2:Addr}{xs ys:List V}{g:TG}{tb:TS}{D:Ends}{σ:St}{H:Hp}(Pv:Nat→St→Hp→Prop)(h0:Pv 0 σ H)(hG:∀i σ H,Pv i σ H→SqT K H l1 xs∧SqT K H l2 ys)
  (hs:∀i x y p σ H,xs[i]? = some x→ys[i]? = some y→H p=none→Pv i σ H→g (.ref p) σ (upd H p (.tup [x,y])) fun σ2 H2=>tb {D with nx:=Pv (i+1),ct:=Pv (i+1),bk:=D.nx} σ2 H2) (hd:∀σ H,Pv (min xs.length ys.length) σ H→D.nx σ H) :
  ∃ W:Nat→Nat→St→Hp→Prop,(∃m,W 0 m σ H)∧∀i m σ H,W i m σ H →
   ((Itz K l1 l2 xs ys).stop i H∧D.nx σ H)∨((Itz K l1 l2 xs ys).go i H∧∃N:St→Hp→Prop,(∀σ' H',N σ' H'→∃m',m'<m∧W (i+1) m' σ' H')∧∀x H',(Itz K l1 l2 xs ys).yld i H x H'→g x σ H' fun σ2 H2=>tb {D with nx:=N,ct:=N,bk:=D.nx} σ2 H2):=by
 refine⟨fun i m σ H=>m=min xs.length ys.length - i∧i≤min xs.length ys.length∧Pv i σ H,⟨_,rfl,Nat.zero_le _,h0⟩,?_⟩
 rintro i m σ H ⟨rfl,hi,p⟩
 obtain⟨q1,q2⟩:=hG i σ H p
 by_cases hlt:i<min xs.length ys.length
 ·refine .inr ⟨⟨q1,q2,hlt⟩,Pv (i+1),fun σ' H' p'=>⟨min xs.length ys.length - (i+1),by omega,rfl,hlt,p'⟩,?_⟩
  rintro v H' ⟨a,x,y,e0,e1,e2,rfl,rfl⟩
  exact hs i x y a σ H e1 e2 e0 p
 ·have e:i=min xs.length ys.length:=by omega
  subst e
  exact .inl ⟨⟨q1,q2,Nat.le_refl _⟩,hd σ H p⟩
end L2
namespace My
def abcd:List Nat:=[97,98,99,100]
def wt (ws:List Int)(c:Nat):Int:=ws.getD (c - 97) 0
def up (ws:List Int):List Nat→Int
 | []=>1
 | c::r=>wt ws c*up ws r
def dn (ws:List Int)(l:List Nat):Int:=ws.sum ^ l.length
def zlE (ws:List Int):Prop:=2≤ws.length∧ws.length≤4∧∀w∈ws,1≤w∧w≤99
def LetOk (m:Nat)(l:List Nat):Prop:=∀c∈l,97≤c∧c<97+m
theorem LetOk.app {m:Nat}{l k:List Nat}(a:LetOk m l)(b:LetOk m k):LetOk m (l++k):=fun c hc=>by
 rcases List.mem_append.mp hc with h|h
 ·exact a c h
 ·exact b c h
theorem zhw {a:Int}(ha:1≤a){n m:Nat}(h:n≤m):a ^ n≤a ^ m:=by
 obtain⟨k,rfl⟩:=Nat.exists_eq_add_of_le h
 rw[Int.pow_add]
 have h1:0<a ^ n:=Int.pow_pos (by omega)
 have h2:0<a ^ k:=Int.pow_pos (by omega)
 have:=Int.mul_le_mul_of_nonneg_left (show(1:Int)≤a ^ k by omega) (Int.le_of_lt h1)
 omega
def Fra (B:Nat)(x:Int×Int):Prop:=0≤x.1∧0<x.2∧x.1<2 ^ B∧x.2<2 ^ B
theorem Fra.mono {B C:Nat}{x:Int×Int}(h:Fra B x)(hBC:B≤C):Fra C x:=by
 have:=zhw (a:=2) (by decide) hBC
 obtain⟨a,b,c,d⟩:=h
 exact⟨a,b,by omega,by omega⟩
section
variable {ws:List Int}(h:zlE ws)
include h
def acc (ws:List Int)(l:List Nat)(S:Int):Int×Int:=low (up ws l*S) (dn ws l*ws.sum)
end
section
variable {a b c d e f:Int}(hb:0<b)(hd:0<d)(hf:0<f)
include hb
end
end My
namespace My
def rising (ps:List (List Nat)):Bool:=(ps.zip ps.tail).all fun x=>decide (x.1<x.2)
def isInner (ps:List (List Nat))(x:List Nat):Bool:=ps.any fun p=>x.isPrefixOf p && !decide (p=x)
def xO (ps:List (List Nat))(x:List Nat):Bool:=!(ps.any fun p=>x.isPrefixOf p || p.isPrefixOf x)
def zT (m:Nat)(xs:List (List Nat)):List (List Nat):=xs.flatMap fun x=>(abcd.take m).map fun c=>x++[c]
def wY (ps:List (List Nat)):Option (List Nat×List Nat):=(ps.zip ps.tail).find? fun x=>x.1.isPrefixOf x.2
def fta (m:Nat)(ps:List (List Nat)):Nat→List (List Nat)→Option (List Nat)
 | 0,_=>none
 | n+1,inner=>if inner=[] then none else match (zT m inner).find? (xO ps) with
  | some x=>some x
  | none=>fta m ps n ((zT m inner).filter (isInner ps))
def vP (m:Nat)(ps:List (List Nat)):Option (List Nat):=fta m ps 10 [[]]
def isBook (m:Nat)(ps:List (List Nat)):Bool:=rising ps&&(wY ps).isNone&&(vP m ps).isNone
theorem ze3 (m:Nat)(hm:m≤4)(xs:List (List Nat)):(zT m xs).length≤4*xs.length:=by
 unfold zT
 induction xs with
 | nil=>simp
 | cons x r ih =>
  rw[List.flatMap_cons,List.length_append,List.length_map,List.length_take,List.length_cons]
  omega
theorem zbD {m:Nat}{xs:List (List Nat)}{y:List Nat}(h:y∈zT m xs):∃x∈xs,∃c∈abcd.take m,y=x++[c]:=by
 unfold zT at h
 obtain⟨x,hx,hy⟩:=List.mem_flatMap.mp h
 obtain⟨c,hc,rfl⟩:=List.mem_map.mp hy
 exact⟨x,hx,c,hc,rfl⟩
theorem zaN {ps:List (List Nat)}{x:List Nat}(h:isInner ps x=true)(h8:∀p∈ps,p.length≤8):x.length<8:=by
 unfold isInner at h
 obtain⟨p,hp,e⟩:=List.any_eq_true.mp h
 rw[Bool.and_eq_true] at e
 obtain⟨s,rfl⟩:=List.isPrefixOf_iff_prefix.mp e.1
 have hs:s≠[]:=fun z=>by subst z;simp at e
 have:=h8 _ hp
 rw[List.length_append] at this
 have:=List.length_pos_iff.mpr hs
 omega
def zkr (ks:List (List Nat))(k:List Nat):List (List Nat):=if k∈ks then ks else ks++[k]
def zmh (p:List Nat):List (List Nat):=(List.range p.length).map fun e=>p.take e
def yu (ps:List (List Nat)):List (List Nat):=(ps.flatMap zmh).foldl zkr []
def sortF (ls:List (List Nat)):List (List Nat):=ls.mergeSort fun a b=>!decide (b<a)
theorem zaP (ls:List (List Nat)):(sortF ls).Pairwise (·≤·):=by
 have h:=List.pairwise_mergeSort (le:=fun a b:List Nat=>!decide (b<a)) (fun a b c h1 h2=>by
  have h1':a≤b:=List.not_lt.mp (by simpa using h1)
  have h2':b≤c:=List.not_lt.mp (by simpa using h2)
  have h3:¬c<a:=List.not_lt.mpr (List.le_trans h1' h2')
  simpa using h3) (fun a b=>by
  rcases List.le_total a b with h|h
  ·have:=List.not_lt.mpr h
   simp[this]
  ·have:=List.not_lt.mpr h
   simp[this]) ls
 exact h.imp fun h=>List.not_lt.mp (by simpa using h)
theorem ud (ls:List (List Nat)):(sortF ls).Perm ls:=List.mergeSort_perm ls _
theorem sortF_eq {ls ms:List (List Nat)}(h:ms.Pairwise (·≤·))(p:ms.Perm ls):ms=sortF ls:=List.Perm.eq_of_pairwise (fun _ _ _ _ h k=>List.le_antisymm h k) h (zaP ls) (p.trans (ud ls).symm)
structure Book (m:Nat)(B:List (List Nat)):Prop where
 m2:2≤m
 m4:m≤4
 let_:∀p∈B,LetOk m p
 ne:∀p∈B,p≠[]
 pf:∀p∈B,∀q∈B,p <+: q→p=q
 cv:∀x,LetOk m x→∃p∈B,p <+: x∨x <+: p
 srt:B.Pairwise (·≤·)
 nd:B.Nodup
theorem zhT {m c:Nat}(h:c∈abcd.take m):97≤c∧c<97+m:=by
 obtain⟨i,hi,rfl⟩:=List.mem_iff_getElem.mp h
 have h1:i<m:=by rw[List.length_take] at hi;omega
 have h2:i<4:=by rw[List.length_take] at hi;have:abcd.length=4:=rfl;omega
 rw[List.getElem_take]
 have:i=0∨i=1∨i=2∨i=3:=by omega
 rcases this with rfl|rfl|rfl|rfl
 ·show 97≤97∧97<_;omega
 ·show 97≤98∧98<_;omega
 ·show 97≤99∧99<_;omega
 ·show 97≤100∧100<_;omega
theorem uJ {m c:Nat}(hm:m≤4)(h:97≤c∧c<97+m):c∈abcd.take m:=by
 have:m=0∨m=1∨m=2∨m=3∨m=4:=by omega
 have:c=97∨c=98∨c=99∨c=100:=by omega
 rcases this with rfl|rfl|rfl|rfl <;>rcases(by assumption:m=0∨_) with rfl|rfl|rfl|rfl|rfl <;>first|decide|omega
theorem zkm (m:Nat):(abcd.take m).Nodup:=List.Sublist.nodup (List.take_sublist _ _) (by decide)
theorem LetOk.one {m c:Nat}(h:c∈abcd.take m):LetOk m [c]:=fun d hd=>by rw[List.mem_singleton.mp hd];exact zhT h
theorem LetOk.pre {m:Nat}{x y:List Nat}(h:LetOk m y)(p:x <+: y):LetOk m x:=fun c hc=>h c (p.subset hc)
theorem zgu {m:Nat}{B:List (List Nat)}(h:Book m B){x:List Nat}(hx:LetOk m x):xO B x=false:=by
 obtain⟨p,hp,e⟩:=h.cv x hx
 unfold xO
 rw[Bool.not_eq_false',List.any_eq_true]
 refine⟨p,hp,?_⟩
 rw[Bool.or_eq_true,List.isPrefixOf_iff_prefix,List.isPrefixOf_iff_prefix]
 exact e.symm
theorem zfr {m:Nat}{xs:List (List Nat)}(h:∀x∈xs,LetOk m x):∀y∈zT m xs,LetOk m y:=fun y hy=>by
 obtain⟨x,hx,c,hc,rfl⟩:=zbD hy
 exact(h x hx).app (LetOk.one hc)
theorem zeB {m:Nat}{B:List (List Nat)}(h:Book m B):∀(n:Nat) (xs:List (List Nat)),(∀x∈xs,LetOk m x)→fta m B n xs=none
 | 0,_,_=>rfl
 | n+1,xs,hx=>by
  unfold fta
  split
  ·rfl
  ·have hg:=zfr hx
   have e:(zT m xs).find? (xO B)=none:=List.find?_eq_none.mpr fun x hx=>by rw[zgu h (hg x hx)];exact Bool.false_ne_true
   rw[e]
   exact zeB h n _ fun x hx=>hg x (List.mem_filter.mp hx).1
theorem zbt {m:Nat}{B:List (List Nat)}(h:Book m B):vP m B=none:=zeB h 10 [[]] fun x hx=>by
 rw[List.mem_singleton.mp hx]
 intro c hc
 cases hc
theorem zdj {α:Type}:∀{l:List α}{x:α×α},x∈l.zip l.tail→x.1∈l∧x.2∈l:=fun {l x} h=>⟨(List.of_mem_zip h).1,List.mem_of_mem_tail (List.of_mem_zip h).2⟩
theorem qw {α:Type}{R:α→α→Prop}:∀{l:List α},l.Pairwise R→∀x∈l.zip l.tail,R x.1 x.2
 | [],_,x,h=>by cases h
 | [_],_,x,h=>by cases h
 | a::b::r,p,x,h=>by
  have h':x∈(a,b)::(b::r).zip r:=h
  rcases List.mem_cons.mp h' with rfl|h'
  ·exact List.rel_of_pairwise_cons p List.mem_cons_self
  ·exact qw (l:=b::r) (List.pairwise_cons.mp p).2 x h'
theorem strict {B:List (List Nat)}(s:B.Pairwise (·≤·))(n:B.Nodup):B.Pairwise (· < ·):=by
 have:=List.Pairwise.and s n
 exact this.imp fun⟨h,k⟩=>Classical.byContradiction fun hn=>k (List.le_antisymm h (List.not_lt.mp hn))
theorem zbr {m:Nat}{B:List (List Nat)}(h:Book m B):wY B=none:=by
 refine List.find?_eq_none.mpr fun x hx=>?_
 intro e
 have hm:=zdj hx
 have:=h.pf _ hm.1 _ hm.2 (List.isPrefixOf_iff_prefix.mp e)
 have lt:=qw (strict h.srt h.nd) x hx
 rw[this] at lt
 exact List.lt_irrefl _ lt
theorem zgo {m:Nat}{B:List (List Nat)}(h:Book m B):rising B=true:=by
 unfold rising
 rw[List.all_eq_true]
 exact fun x hx=>decide_eq_true (qw (strict h.srt h.nd) x hx)
theorem Book.isBook {m:Nat}{B:List (List Nat)}(h:Book m B):isBook m B=true:=by
 unfold My.isBook
 rw[zgo h,zbr h,zbt h]
 rfl
def kids (m:Nat)(p:List Nat):List (List Nat):=(abcd.take m).map fun c=>p++[c]
theorem kids_mem {m:Nat}{p x:List Nat}:x∈kids m p↔∃c∈abcd.take m,x=p++[c]:=by
 unfold kids
 rw[List.mem_map]
 exact⟨fun⟨c,h,e⟩=>⟨c,h,e.symm⟩,fun⟨c,h,e⟩=>⟨c,h,e.symm⟩⟩
theorem zfV (m:Nat)(p:List Nat):(kids m p).Nodup:=by
 unfold kids
 rw[List.nodup_iff_pairwise_ne,List.pairwise_map]
 refine(zkm m).imp fun h e=>h ?_
 exact List.singleton_inj.mp (List.append_cancel_left e)
theorem zcf (m:Nat)(hm:m≤4)(p:List Nat):(kids m p).length=m:=by
 unfold kids
 rw[List.length_map,List.length_take]
 show min m 4=m
 omega
theorem zkG {m:Nat}(hm:2≤m){B:List (List Nat)}{p:List Nat}(hp:∀x∈kids m p,x∈B){x:List Nat}(hx:LetOk m x)(m4:m≤4)(h:p <+: x∨x <+: p):∃q∈B,q <+: x∨x <+: q:=by
 have h97:97∈abcd.take m:=uJ m4 (by omega)
 rcases h with⟨s,rfl⟩|h
 ·cases s with
  | nil=>exact⟨p++[97],hp _ (kids_mem.mpr ⟨97,h97,rfl⟩),.inr (by rw[List.append_nil];exact List.prefix_append _ _)⟩
  | cons c r =>
   have hc:=hx c (by simp)
   exact⟨p++[c],hp _ (kids_mem.mpr ⟨c,uJ m4 hc,rfl⟩),.inl ⟨r,by simp⟩⟩
 ·exact⟨p++[97],hp _ (kids_mem.mpr ⟨97,h97,rfl⟩),.inr (h.trans (List.prefix_append _ _))⟩
theorem zcq (p:List Nat)(c:Nat):p++[c]≠p:=fun e=>by have:=congrArg List.length e;simp at this
def part (m:Nat)(B:List (List Nat))(j:Nat):List (List Nat):=sortF (B.eraseIdx j++kids m (B.getD j []))
theorem part_mem {m:Nat}{B:List (List Nat)}(hn:B.Nodup){j:Nat}(hj:j<B.length){x:List Nat}:x∈part m B j↔(x∈B∧x≠B.getD j [])∨x∈kids m (B.getD j []):=by
 unfold part
 rw[(ud _).mem_iff,List.mem_append]
 have e:B.getD j []=B[j]:=by rw[List.getD_eq_getElem?_getD,List.getElem?_eq_getElem hj];rfl
 have:x∈B.eraseIdx j↔x∈B∧x≠B.getD j []:=by
  rw[List.mem_eraseIdx_iff_getElem,e]
  constructor
  ·rintro⟨i,hi,hij,rfl⟩
   exact⟨List.getElem_mem hi,fun z=>hij ((List.getElem_inj hn).mp z)⟩
  ·rintro⟨hx,hne⟩
   obtain⟨i,hi,rfl⟩:=List.mem_iff_getElem.mp hx
   exact⟨i,hi,fun z=>hne (by subst z;rfl),rfl⟩
 rw[this]
theorem Book.part {m:Nat}{B:List (List Nat)}(h:Book m B){j:Nat}(hj:j<B.length):Book m (part m B j):=by
 have hpm:B.getD j []∈B:=by rw[List.getD_eq_getElem?_getD,List.getElem?_eq_getElem hj];exact List.getElem_mem hj
 have mem:=fun x=>part_mem (m:=m) h.nd hj (x:=x)
 have hsr:(My.part m B j).Pairwise (·≤·):=zaP _
 have hnd:(My.part m B j).Nodup:=by
  unfold My.part
  refine(ud _).nodup_iff.mpr (List.nodup_append.mpr ⟨h.nd.eraseIdx j,zfV _ _,?_⟩)
  rintro a ha b hb rfl
  have haB:a∈B:=List.mem_of_mem_eraseIdx ha
  obtain⟨c,hc,rfl⟩:=kids_mem.mp hb
  have:=h.pf _ hpm _ haB (List.prefix_append _ _)
  exact zcq _ _ this.symm
 generalize My.part m B j=C at mem hsr hnd
 generalize B.getD j []=p at mem hpm
 refine⟨h.m2,h.m4,fun x hx=>?_,fun x hx=>?_,fun x hx y hy hxy=>?_,fun x hx=>?_,hsr,hnd⟩
 ·rcases (mem x).mp hx with⟨hx,_⟩|hx
  ·exact h.let_ x hx
  ·obtain⟨c,hc,rfl⟩:=kids_mem.mp hx
   exact(h.let_ _ hpm).app (LetOk.one hc)
 ·rcases (mem x).mp hx with⟨hx,_⟩|hx
  ·exact h.ne x hx
  ·obtain⟨c,hc,rfl⟩:=kids_mem.mp hx
   simp
 ·rcases (mem x).mp hx with⟨hx,nx⟩|hx <;>rcases(mem y).mp hy with⟨hy,ny⟩|hy
  ·exact h.pf x hx y hy hxy
  ·obtain⟨c,hc,rfl⟩:=kids_mem.mp hy
   rcases List.prefix_concat_iff.mp hxy with e|e
   ·exact e
   ·exact absurd (h.pf x hx p hpm e) nx
  ·obtain⟨c,hc,rfl⟩:=kids_mem.mp hx
   exact absurd (h.pf p hpm y hy ((List.prefix_append _ _).trans hxy)).symm ny
  ·obtain⟨c,hc,rfl⟩:=kids_mem.mp hx
   obtain⟨d,hd,rfl⟩:=kids_mem.mp hy
   exact hxy.eq_of_length (by simp)
 ·obtain ⟨q,hq,e⟩:=h.cv x hx
  by_cases hqp:q=p
  ·subst hqp
   exact zkG h.m2 (fun z hz=>(mem z).mpr (.inr hz)) hx h.m4 e
  ·exact⟨q,(mem q).mpr (.inl ⟨hq,hqp⟩),e⟩
theorem Book.letters {m:Nat}(m2:2≤m)(m4:m≤4):Book m (kids m []):=by
 refine⟨m2,m4,fun x hx=>?_,fun x hx=>?_,fun x hx y hy hxy=>?_,fun x hx=>?_,?_,zfV m []⟩
 ·obtain⟨c,hc,rfl⟩:=kids_mem.mp hx
  exact LetOk.one hc
 ·obtain⟨c,hc,rfl⟩:=kids_mem.mp hx
  simp
 ·obtain⟨c,hc,rfl⟩:=kids_mem.mp hx
  obtain⟨d,hd,rfl⟩:=kids_mem.mp hy
  exact hxy.eq_of_length (by simp)
 ·exact zkG m2 (fun z hz=>hz) hx m4 (.inl (List.nil_prefix))
 ·have:m=2∨m=3∨m=4:=by omega
  rcases this with rfl|rfl|rfl <;>decide
def Inner (B:List (List Nat))(x:List Nat):Prop:=∃p∈B,x <+: p∧x≠p
theorem foldl_addK (l:List (List Nat)):∀ks:List (List Nat),ks.Nodup→(l.foldl zkr ks).Nodup∧∀x,x∈l.foldl zkr ks↔x∈ks∨x∈l:=by
 induction l with
 | nil=>intro ks h;exact⟨h,fun x=>by simp⟩
 | cons k r ih =>
  intro ks h
  rw[List.foldl_cons]
  have h1:(zkr ks k).Nodup∧∀x,x∈zkr ks k↔x∈ks∨x=k:=by
   unfold zkr
   split
   ·exact⟨h,fun x=>⟨.inl,fun z=>z.elim id fun e=>by rw[e];assumption⟩⟩
   ·rename_i hk
    refine⟨List.nodup_append.mpr ⟨h,by simp,?_⟩,fun x=>by simp⟩
    rintro a ha b hb rfl
    rw[List.mem_singleton.mp hb] at ha
    exact hk ha
  obtain⟨h2,h3⟩:=ih _ h1.1
  refine⟨h2,fun x=>?_⟩
  rw[h3,h1.2,List.mem_cons,or_assoc]
theorem begs_mem {p x:List Nat}:x∈zmh p↔x <+: p∧x≠p:=by
 unfold zmh
 rw[List.mem_map]
 constructor
 ·rintro⟨e,he,rfl⟩
  have he':=List.mem_range.mp he
  refine⟨List.take_prefix _ _,fun z=>?_⟩
  have:=congrArg List.length z
  rw[List.length_take] at this
  omega
 ·rintro⟨h,hn⟩
  refine⟨x.length,List.mem_range.mpr ?_,(List.prefix_iff_eq_take.mp h).symm⟩
  have h1:=h.length_le
  have:x.length≠p.length:=fun z=>hn (h.eq_of_length z)
  omega
theorem uH (B:List (List Nat)):(yu B).Nodup:=(foldl_addK _ [] List.nodup_nil).1
theorem innerKeys_mem {B:List (List Nat)}{x:List Nat}:x∈yu B↔Inner B x:=by
 unfold yu
 rw[(foldl_addK _ [] List.nodup_nil).2,List.mem_flatMap]
 simp only[List.not_mem_nil,false_or]
 exact⟨fun⟨p,hp,h⟩=>⟨p,hp,begs_mem.mp h⟩,fun⟨p,hp,h⟩=>⟨p,hp,begs_mem.mpr h⟩⟩
theorem zbC {m:Nat}(m2:2≤m)(m4:m≤4){B:List (List Nat)}(hn:B.Nodup){j:Nat}(hj:j<B.length){x:List Nat}(h:Inner (part m B j) x):Inner B x∨x=B.getD j []:=by
 obtain⟨q,hq,hx,hne⟩:=h
 have hpm:B.getD j []∈B:=by rw[List.getD_eq_getElem?_getD,List.getElem?_eq_getElem hj];exact List.getElem_mem hj
 rcases(part_mem hn hj).mp hq with⟨hq,_⟩|hq
 ·exact .inl ⟨q,hq,hx,hne⟩
 ·obtain ⟨c,hc,rfl⟩:=kids_mem.mp hq
  rcases List.prefix_concat_iff.mp hx with e|e
  ·exact absurd e hne
  ·by_cases hp:x=B.getD j []
   ·exact .inr hp
   ·exact .inl ⟨_,hpm,e,hp⟩
theorem sortF_mem {ls:List (List Nat)}{x:List Nat}:x∈sortF ls↔x∈ls:=(ud ls).mem_iff
theorem zh7 {m:Nat}(m4:m≤4){B:List (List Nat)}{j:Nat}(hj:j<B.length):(part m B j).length=B.length - 1+m:=by
 unfold part
 rw[(ud _).length_eq,List.length_append,zcf m m4,List.length_eraseIdx,if_pos hj]
def zm9 (B:List (List Nat))(x:List Nat):Prop:=∀y,y <+: x→y≠[]→y∉B
theorem Book.free {m:Nat}{B:List (List Nat)}(h:Book m B){x:List Nat}(hx:Inner B x):zm9 B x:=fun y hy hn hyB=>by
 obtain⟨p,hp,hxp,hne⟩:=hx
 have e:=h.pf y hyB p hp (hy.trans hxp)
 subst e
 exact hne (List.IsPrefix.eq_of_length hxp (Nat.le_antisymm hxp.length_le hy.length_le))
inductive Gr (m:Nat):Nat→List (List Nat)→Prop
 | z:Gr m 0 (kids m [])
 | s {t:Nat}{B:List (List Nat)}{j:Nat}:Gr m t B→j<B.length→Gr m (t+1) (part m B j)
theorem Gr.book {m:Nat}(m2:2≤m)(m4:m≤4){t:Nat}{B:List (List Nat)}(h:Gr m t B):Book m B:=by
 induction h with
 | z=>exact Book.letters m2 m4
 | s _ hj ih=>exact ih.part hj
theorem Gr.len {m:Nat}(m2:2≤m)(m4:m≤4){t:Nat}{B:List (List Nat)}(h:Gr m t B):B.length=m+t*(m - 1):=by
 induction h with
 | z=>rw[zcf m m4];omega
 | s _ hj ih =>
  rename_i B' t' _
  rw[zh7 m4 hj,ih,Nat.add_mul]
  generalize _*(m - 1)=z
  omega
theorem Gr.short {m:Nat}(m2:2≤m)(m4:m≤4){t:Nat}{B:List (List Nat)}(h:Gr m t B):∀p∈B,p.length≤t+1:=by
 induction h with
 | z=>intro p hp;obtain⟨c,_,rfl⟩:=kids_mem.mp hp;simp
 | s g hj ih =>
  rename_i t' B' j
  intro p hp
  have hpm:B'.getD j []∈B':=by rw[List.getD_eq_getElem?_getD,List.getElem?_eq_getElem hj];exact List.getElem_mem hj
  rcases(part_mem (g.book m2 m4).nd hj).mp hp with⟨hp,_⟩|hp
  ·have:=ih p hp;omega
  ·obtain⟨c,_,rfl⟩:=kids_mem.mp hp
   have:=ih _ hpm
   rw[List.length_append]
   show _+1≤_
   omega
theorem Gr.inner {m:Nat}(m2:2≤m)(m4:m≤4){t:Nat}{B:List (List Nat)}(h:Gr m t B):∃L:List (List Nat),L.length=t+1∧∀x,Inner B x→x∈L:=by
 induction h with
 | z =>
  refine⟨[[]],rfl,fun x hq36=>?_⟩
  obtain⟨p,hp,hx,hn⟩:=hq36
  obtain⟨c,_,rfl⟩:=kids_mem.mp hp
  rcases List.prefix_concat_iff.mp hx with e|e
  ·exact absurd e hn
  ·rw[List.prefix_nil.mp e];simp
 | s g hj ih =>
  rename_i t' B' j
  obtain⟨L,h1,h2⟩:=ih
  refine⟨L++[B'.getD j []],by simp[h1],fun x hx=>?_⟩
  rcases zbC m2 m4 (g.book m2 m4).nd hj hx with h|h
  ·exact List.mem_append_left _ (h2 x h)
  ·rw[h];simp
theorem Gr.keys {m:Nat}(m2:2≤m)(m4:m≤4){t:Nat}{B:List (List Nat)}(h:Gr m t B):(yu B).length≤t+1:=by
 obtain⟨L,h1,h2⟩:=h.inner m2 m4
 rw[← h1]
 exact(uH B).length_le_of_subset fun x hx=>h2 x (innerKeys_mem.mp hx)
end My
namespace L2
open PySem PySem.Spec PyProof.Rows
section
variable {prog:Program}{w:World}{A:Around}{E:Value→Shared→Prop}{s:Shared}
theorem zd4 {l:Addr}{vs:List Value}{Q:List Value→Shared→Prop}(hl:IsTup s.heap l vs.toArray)
  (h:Q vs {s with heap:=(s.heap.push (seqObj "list" #[] 0)).update s.heap.objs.size (Obj.mapSeq (· ++ vs.toArray))}) (hsz:vs.length≤sizeLine) :
  wpAny (model prog w) A (collect (.ref l)) Q E s:=by
 obtain⟨o,ho,hc,n,hd⟩:=id hl
 unfold collect
 refine wpAny_bind (wpAny_runValue (codeAny_builtin entry_proto_collect' ?_))
 show wpAny _ _ (do again (.builtin "list.__iadd__" ⟨[← newList [],.ref l],[]⟩)) _ _ s
 refine wpAny_bind (wpAny_newList (wpAny_pure ⟨Code.quiet_builtin _ (by decide +kernel),codeAny_builtin entry_list_iadd' ?_⟩))
 show wpAny _ _ (Builtin.List.listExtendWith (.ref s.heap.objs.size) (.ref l) (.ref s.heap.objs.size)) _ _ {s with heap:=s.heap.push (seqObj "list" #[] 0)}
 unfold Builtin.List.listExtendWith
 have ho':(s.heap.push (seqObj "list" #[] 0)).get? l=some o:=Heap.get?_push_of_some _ ho
 refine wpAny_bind (wpAny_typeOf (T := "tuple") ⟨o,ho',hc⟩ ?_)
 have ht:(Value.type "tuple" == Value.type "tuple")=true:=by rfl
 rw[if_pos (by rw[ht];simp)]
 refine wpAny_bind (listItems_at ho' hd ?_)
 refine wpAny_bind (listItems_at (xs:=#[]) (n:=0) (Heap.get?_push_size _ rfl) rfl ?_)
 rw[if_neg (by simp)]
 refine wpAny_bind (listUpdate_at (xs:=#[]) (n:=0) (Heap.get?_push_size _ rfl) rfl ?_ (Nat.zero_le _) (by show(#[]++vs.toArray).size≤sizeLine+1;simp only[Array.size_append,List.size_toArray,List.length_nil];omega))
 refine wpAny_pure ?_
 show wpAny (model prog w) A (do
   let o ← load s.heap.objs.size
   match o.data with
   | .seq xs _=>pure xs.toList
   | _=>unsupported "internal:collect") Q E {s with heap:=(s.heap.push (seqObj "list" #[] 0)).update s.heap.objs.size (Obj.mapSeq (· ++ vs.toArray))}
 refine wpAny_bind (wpAny_load (get?_update_seq (Heap.get?_push_size _ rfl) _) ?_)
 show wpAny _ _ (pure ((#[]:Array Value)++vs.toArray).toList) Q E _
 rw[show((#[]:Array Value)++vs.toArray).toList=vs by simp]
 exact wpAny_pure h
theorem zhs {κ:KeyKind}(hO:κ.OneLt){l:Addr}{vs:List Value}{Q:Value→Shared→Prop}(hl:IsTup s.heap l vs.toArray)(h0:KeysOf κ (pairsOf vs))(hkk:∀v₁ v₂ rest,vs=v₁::v₂::rest→keyKind' (v₁::v₂::rest).toArray=pure oneType')(h64:vs.length<64)
  (h:∀st':SortSt,(arrOf st').Perm (pairsOf vs)→SortedToK κ (arrOf st') (pairsOf vs).size→Q (.ref (s.heap.objs.size+1)) {s with heap:=sortedAll s.heap vs ((arrOf st').map (·.2))}) :
  wpAny (model prog w) A (call (.builtin "sorted") [.ref l]) Q E s:=by
 have hz:vs.length≤sizeLine:=by rw[sizeLine_eq];omega
 refine Calls.call_function_entry kind_sorted plain_sorted entry_sorted (args_sorted1 _) ?_
 unfold Builtin.«sorted»
 refine wpAny_bind (m:=checkCount "sorted" 1 1 _) (wpAny_pure ?_)
 refine wpAny_bind (zd4 hl ?_ hz)
 refine wpAny_bind (wpAny_newList ?_)
 have hsz:((s.heap.push (seqObj "list" #[] 0)).update s.heap.objs.size (Obj.mapSeq (· ++ vs.toArray))).objs.size=s.heap.objs.size+1:=by
  rw[Heap.size_update,size_push']
 have hoL:(((s.heap.push (seqObj "list" #[] 0)).update s.heap.objs.size (Obj.mapSeq (· ++ vs.toArray))).push (seqObj "list" vs.toArray 0)).get? (s.heap.objs.size+1)=some (seqObj "list" vs.toArray 0):=by
  rw[← hsz];exact Heap.get?_push_size _ rfl
 show wpAny _ _ _ _ _ {s with heap:=((s.heap.push (seqObj "list" #[] 0)).update s.heap.objs.size (Obj.mapSeq (· ++ vs.toArray))).push (seqObj "list" vs.toArray 0)}
 rw[hsz]
 refine wpAny_bind (wpAny_holding (wpAny_call_entry slot_list_sort ⟨_,hoL,rfl⟩ entry_list_sort (list_sort_treeK hO hoL h0 hkk h64 fun st' a1 a2=>⟨_,rfl,?_⟩) (args_list_sort _)))
 exact wpAny_pure ⟨_,rfl,h st' a1 a2⟩
end
section
variable {X:Cx}
theorem zcT:qR X (.builtin "sorted") (fun xs H Q=>∃a ls,xs=[.ref a]∧SqT X.K H a (vT ls)∧ls.length<64∧∀p ms,H p=none→ms.Perm ls→Srt ms→Q (.ref p) (upd H p (.lst (vT ms)))):=by
 intro pins s σ H xs us Q I r h
 obtain⟨a,ls,rfl,ha,h64,q⟩:=h
 obtain⟨u,rfl,ru⟩:=vals1 r
 cases ru
 obtain⟨its,rv,pl,hz⟩:=I.tuple ha
 rw[zm3] at rv
 have hl:=rv.length
 simp only[List.length_map] at hl
 have hS:=jN rv
 refine zhs strKind_oneLt pl hS.keysOf (fun v₁ v₂ rest e=>keyKind_strs (by rw[← e];exact hS)) (by omega) fun st' hp hs=>?_
 obtain⟨ss',h1,h2,h3⟩:=sorted_out_str hS hp hs
 have hS:=ziz h3
 have hP:(ss'.map fun x=>x.cps.toList).Perm ls:=by
  have:=h2.map fun x:Str=>x.cps.toList
  rw[List.map_map] at this
  have e:ls.map ((fun x:Str=>x.cps.toList)∘T)=ls:=by
   have:((fun x:Str=>x.cps.toList)∘T)=id:=funext fun l=>jL l
   rw[this,List.map_id]
  rw[e] at this
  exact this
 obtain⟨c,hat⟩:=sortedAll_at s.heap its ((arrOf st').map (·.2))
 have hlen:ss'.length=ls.length:=by have:=h2.length_eq;simpa using this
 refine⟨.ref (s.heap.objs.size+1),_,I.laid (t':=s.toks) (o:=.lst (vT (ss'.map fun x=>x.cps.toList))) (fun b o e=>sortedAll_old e) (Nat.le_succ _) ?_,rfl,q _ _ (I.hok.fresh (Nat.le_succ _)) hP hS⟩
 refine⟨?_,((arrOf st').map (·.2)).toList,c,?_,by rw[Array.toArray_toList];exact hat⟩
 ·rw[← zeQ,List.length_map,sizeLine_eq];omega
 ·rw[← zeQ];exact zbd h1
end
end L2
namespace My
theorem inner_iff {ps:List (List Nat)}{x:List Nat}:isInner ps x=true↔Inner ps x:=by
 unfold isInner Inner
 rw[List.any_eq_true]
 constructor
 ·rintro⟨p,hp,e⟩
  rw[Bool.and_eq_true,List.isPrefixOf_iff_prefix,Bool.not_eq_true',decide_eq_false_iff_not] at e
  exact⟨p,hp,e.1,fun z=>e.2 z.symm⟩
 ·rintro⟨p,hp,e,hn⟩
  refine⟨p,hp,?_⟩
  rw[Bool.and_eq_true,List.isPrefixOf_iff_prefix,Bool.not_eq_true',decide_eq_false_iff_not]
  exact⟨e,fun z=>hn z.symm⟩
theorem apart_iff {ps:List (List Nat)}{x:List Nat}:xO ps x=true↔∀p∈ps,¬x <+: p∧¬p <+: x:=by
 unfold xO
 rw[Bool.not_eq_true',List.any_eq_false]
 constructor
 ·intro h p hp
  have:=h p hp
  rw[Bool.or_eq_true,List.isPrefixOf_iff_prefix,List.isPrefixOf_iff_prefix] at this
  exact⟨fun z=>this (.inl z),fun z=>this (.inr z)⟩
 ·intro h p hp
  rw[Bool.or_eq_true,List.isPrefixOf_iff_prefix,List.isPrefixOf_iff_prefix]
  exact fun z=>z.elim (h p hp).1 (h p hp).2
theorem zha {m:Nat}{xs:List (List Nat)}{x:List Nat}{c:Nat}(hx:x∈xs)(hc:c∈abcd.take m):x++[c]∈zT m xs:=by
 unfold zT
 exact List.mem_flatMap.mpr ⟨x,hx,List.mem_map.mpr ⟨c,hc,rfl⟩⟩
theorem Book.nilInner {m:Nat}{B:List (List Nat)}(h:Book m B):Inner B []:=by
 obtain⟨p,hp,_⟩:=h.cv [] (fun c hc=>by cases hc)
 exact⟨p,hp,List.nil_prefix,fun z=>h.ne p hp z.symm⟩
theorem Book.innerLet {m:Nat}{B:List (List Nat)}(h:Book m B){x:List Nat}(hx:Inner B x):LetOk m x:=by
 obtain⟨p,hp,hxp,_⟩:=hx
 exact(h.let_ p hp).pre hxp
theorem Book.step {m:Nat}{B:List (List Nat)}(h:Book m B){x:List Nat}(hx:Inner B x){c:Nat}(hc:c∈abcd.take m):(Inner B (x++[c])∧x++[c]∉B)∨(¬Inner B (x++[c])∧x++[c]∈B):=by
 have hnot:Inner B (x++[c])→x++[c]∉B:=fun hi=>h.free hi _ (List.prefix_refl _) (by simp)
 by_cases hB:x++[c]∈B
 ·exact .inr ⟨fun hi=>hnot hi hB,hB⟩
 ·refine .inl ⟨?_,hB⟩
  obtain⟨q,hq,e⟩:=h.cv (x++[c]) ((h.innerLet hx).app (LetOk.one hc))
  rcases e with e|e
  ·rcases List.prefix_concat_iff.mp e with e|e
   ·exact absurd (e▸hq) hB
   ·exact absurd hq (h.free hx q e (h.ne q hq))
  ·exact⟨q,hq,e,fun z=>hB (z▸hq)⟩
theorem za9 {m:Nat}(m2:2≤m)(m4:m≤4){B:List (List Nat)}(hb:Book m B){j:Nat}(hj:j<B.length){x:List Nat}:Inner (part m B j) x↔Inner B x∨x=B.getD j []:=by
 have hpm:B.getD j []∈B:=by rw[List.getD_eq_getElem?_getD,List.getElem?_eq_getElem hj];exact List.getElem_mem hj
 have h97:97∈abcd.take m:=uJ m4 (by omega)
 have hk:B.getD j []++[97]∈part m B j:=(part_mem hb.nd hj).mpr (.inr (kids_mem.mpr ⟨97,h97,rfl⟩))
 refine⟨zbC m2 m4 hb.nd hj,?_⟩
 rintro(⟨p,hp,hx,hne⟩|rfl)
 ·by_cases e:p=B.getD j []
  ·refine ⟨_,hk,?_,?_⟩
   ·rw[← e];exact hx.trans (List.prefix_append _ _)
   ·intro z
    have h1:=hx.length_le
    rw[z,← e] at h1
    simp at h1
    omega
  ·exact⟨p,(part_mem hb.nd hj).mpr (.inl ⟨hp,e⟩),hx,hne⟩
 ·exact⟨_,hk,List.prefix_append _ _,fun z=>zcq _ _ z.symm⟩
theorem Gr.keysEq {m:Nat}(m2:2≤m)(m4:m≤4){t:Nat}{B:List (List Nat)}(h:Gr m t B):(yu B).length=t+1:=by
 have key:∃L:List (List Nat),L.Nodup∧L.length=t+1∧∀x,Inner B x↔x∈L:=by
  induction h with
  | z =>
   refine⟨[[]],by simp,rfl,fun x=>⟨fun⟨p,hp,hx,hn⟩=>?_,fun hx=>?_⟩⟩
   ·obtain⟨c,_,rfl⟩:=kids_mem.mp hp
    rcases List.prefix_concat_iff.mp hx with e|e
    ·exact absurd e hn
    ·rw[List.prefix_nil.mp e];simp
   ·rw[List.mem_singleton.mp hx]
    exact(Book.letters m2 m4).nilInner
  | s g hj ih =>
   rename_i t' B' j
   obtain⟨L,h0,h1,h2⟩:=ih
   have hb:=g.book m2 m4
   have hpm:B'.getD j []∈B':=by rw[List.getD_eq_getElem?_getD,List.getElem?_eq_getElem hj];exact List.getElem_mem hj
   refine⟨L++[B'.getD j []],List.nodup_append.mpr ⟨h0,by simp,?_⟩,by simp[h1],fun x=>?_⟩
   ·rintro a ha b hb' rfl
    rw[List.mem_singleton.mp hb'] at ha
    exact hb.free ((h2 _).mpr ha) _ (List.prefix_refl _) (hb.ne _ hpm) hpm
   ·rw[za9 m2 m4 hb hj,h2,List.mem_append,List.mem_singleton]
 obtain⟨L,h0,h1,h2⟩:=key
 rw[← h1]
 refine Nat.le_antisymm ((uH B).length_le_of_subset fun x hx=>(h2 x).mp (innerKeys_mem.mp hx)) (h0.length_le_of_subset fun x hx=>innerKeys_mem.mpr ((h2 x).mpr hx))
theorem zaR:∀(x z s:List Nat),x≤z→z≤x++s→x <+: z
 | [],z,s,_,_=>List.nil_prefix
 | a::x,[],s,h,_=>absurd (List.nil_lt_cons a x) (List.not_lt.mpr h)
 | a::x,b::z,s,h1,h2=>by
  have e:a=b:=by
   have h3:=(List.not_lt.mpr h1)
   have h4:=(List.not_lt.mpr h2)
   rw[List.cons_append] at h4
   have n1:¬b<a:=fun z=>h3 (List.cons_lt_cons_iff.mpr (.inl z))
   have n2:¬a<b:=fun z=>h4 (List.cons_lt_cons_iff.mpr (.inl z))
   omega
  subst e
  refine List.cons_prefix_cons.mpr ⟨rfl,zaR x z s (List.not_lt.mp fun z=>List.not_lt.mpr h1 (List.cons_lt_cons_iff.mpr (.inr ⟨rfl,z⟩))) (List.not_lt.mp fun z=>List.not_lt.mpr h2 (List.cons_lt_cons_iff.mpr (.inr ⟨rfl,z⟩)))⟩
theorem zgX:∀{l:List (List Nat)},l.Pairwise (· < ·)→∀{x y:List Nat},x∈l→y∈l→x<y→∃z,(x,z)∈l.zip l.tail∧x<z∧z≤y
 | [],_,_,_,h,_,_=>by cases h
 | [a],_,x,y,hx,hy,hlt=>by
  rw[List.mem_singleton.mp hx,List.mem_singleton.mp hy] at hlt
  exact absurd hlt (List.lt_irrefl _)
 | a :: b::r,p,x,y,hx,hy,hlt=>by
  have pp:=List.pairwise_cons.mp p
  rcases List.mem_cons.mp hx with rfl|hx2
  ·rcases List.mem_cons.mp hy with rfl|hy
   ·exact absurd hlt (List.lt_irrefl _)
   ·refine⟨b,List.mem_cons_self,pp.1 b List.mem_cons_self,?_⟩
    rcases List.mem_cons.mp hy with rfl|hy
    ·exact List.le_refl _
    ·exact List.le_of_lt ((List.pairwise_cons.mp pp.2).1 y hy)
  ·rcases List.mem_cons.mp hy with hy|hy
   ·rw[hy] at hlt
    exact absurd (List.lt_trans hlt (pp.1 x hx2)) (List.lt_irrefl _)
   ·obtain⟨z,h1,h2⟩:=zgX (l:=b::r) pp.2 hx2 hy hlt
    exact⟨z,List.mem_cons_of_mem _ h1,h2⟩
end My
namespace L2
open PySem PySem.Spec PyProof.Rows
def zdw (P:Program)(w:World)(outer:List Env)(H:Hp)(s:Shared)(E:XK)(e:Value)(s':Shared):Prop :=
 ∃ (a C:Addr) (a0:Value) (H':Hp) (B:Heap),e=.ref a∧s'.os=s.os∧AllBare s'.gens ∧
  (∀b o,s.heap.get? b=some o→b∉frs outer→∃o',B.get? b=some o'∧(H b=none→o'=o)) ∧
  (∀b o,s.heap.get? b=some o→b∈frs outer→∃sl,s'.heap.get? b=some {o with slots:=sl}) ∧
  (∀b o,s.heap.get? b=some o→H b=none→H' b=none) ∧
  (∀b xs,H b=some (.tup xs)→H' b=some (.tup xs))∧(∀b o u,H b=some (.frz o u)→H' b=some (.frz o u))∧(∀b ps,H b=some (.tbl ps)→∃more,H' b=some (.tbl (ps++more))) ∧
  HOk P w H' B∧Heap.FlyingW B outer a (.ref C) a0 s'.heap∧E (.ref C) none H'
abbrev CX1 (P:Program)(w:World):CXT:=zdw P w
theorem zb7 {env:Env}{outer:List Env}{L:Addr}(hf:env.frame=some L):frs (env::outer)=L::frs outer:=by
 unfold frs
 rw[List.filterMap_cons,hf]
theorem zh4 {P:Program}{w:World}{H:Hp}{h:Heap}{l:List Addr}(ok:HOk P w H h)(hl:∀b∈l,H b=none):HOk P w H (PySem.W.hideAll h l):=fun b o e =>
 (ok b o e).stay (fun c u hc q=>PySem.W.hideAll_get l q fun z=>by
  rcases hc with rfl|hc
  ·rw[hl _ z] at e;cases e
  ·rw[hl _ z] at hc;cases hc) (fun _ q=>q) fun _ _ q=>q
section
variable {X:Cx}{pins:List (Addr×Obj)}{σ:St}{H:Hp}{s:Shared}{M:Model}{F:Value→Shared→Prop}{E:XK}
theorem Inv.fr0 (I:Inv X pins σ H s){b:Addr}(hb:b∈X.fs):X.H₀ b=none∧b∉X.ex:=⟨I.ok.frf b hb,fun z=>I.ok.exfs b z hb⟩
theorem zfK (I:Inv X pins σ H s)(hst:X.stack=X.env::X.outer)(hfr:X.env.frame=some X.env.locals)(hex:X.ex=[]){e C:Addr}{args:List Value}{h':Heap}
  (hx:Heap.MadeExcOf s.heap h' e (.ref C) args) (hE:E (.ref C) none H) :
  wpAny M X.A (leaving X.env (.ref e)) (fun _ s''=>zdw X.prog X.w X.outer X.H₀ X.s₀ E (.ref e) s'') F {s with heap:=h'}:=by
 have hin:∀env∈X.stack,∀b,env.frame=some b→b∈frs X.stack:=fun env he b hb=>List.mem_filterMap.mpr ⟨env,he,hb⟩
 have hstk:frs X.stack=X.env.locals::frs X.outer:=by rw[hst];exact zb7 hfr
 have nex:∀b:Addr,b∉X.ex:=fun b z=>by rw[hex] at z;cases z
 refine wpAny_leaves_madeW (base:=PySem.W.hideAll s.heap (frs X.stack)) (h:=s.heap) (outer:=X.outer) (I.ok.frames.trans (by rw[hst])) hfr (fun b o q=>PySem.W.of_hideAll _ q) (by rw[← hst];exact PySem.W.funFrames_hide I.stack hin) hx fun h2 t x1 x2 x3 x4=>?_
 refine⟨e,C,.ref t,H,PySem.W.hideAll s.heap (frs X.stack),rfl,I.os,I.bare,fun b o q hb=>?_,fun b o q hb=>?_,fun b o q n=>I.base.free b o q n (nex b),I.base.tups,I.base.frzs,I.base.tbls,zh4 I.hok I.stkFree,x1,hE⟩
 ·obtain ⟨o1,e1⟩:=I.base.there b o q (nex b)
  refine⟨o1,PySem.W.hideAll_get _ e1 fun z=>?_,fun n=>?_⟩
  ·rw[hstk] at z
   rcases List.mem_cons.mp z with z|z
   ·exact absurd (Heap.lt_size q) (Nat.not_lt.mpr (z▸I.ok.above))
   ·exact hb z
  ·have:=I.base.keep b o q n hb (nex b)
   rw[e1] at this
   exact Option.some.inj this
 ·obtain ⟨sl,e1⟩:=I.base.slot b o q (I.fr0 hb).1 hb (nex b)
  have hb2:b∈X.stack.filterMap (·.frame):=by
   show b∈frs X.stack
   rw[hstk]
   exact List.mem_cons_of_mem _ hb
  obtain⟨_,o2,e2,nf⟩:=I.stack.mem hb2
  rw[e1] at e2
  obtain rfl:=Option.some.inj e2
  obtain⟨sl2,e3⟩:=x4 b _ (hx.keeps b _ e1) nf
  exact⟨sl2,e3⟩
theorem zit (I:Inv X pins σ H s)(hst:X.stack=X.env::X.outer)(hfr:X.env.frame=some X.env.locals)(hex:X.ex=[]){e:Value}{s':Shared}(hf:zdw X.prog X.w X.stack H s E e s') :
  wpAny M X.A (leaving X.env e) (fun _ s''=>zdw X.prog X.w X.outer X.H₀ X.s₀ E e s'') F s':=by
 have hstk:frs X.stack=X.env.locals::frs X.outer:=by rw[hst];exact zb7 hfr
 have nex:∀b:Addr,b∉X.ex:=fun b z=>by rw[hex] at z;cases z
 obtain⟨a,C,a0,H',B,rfl,hos,hbare,h1,h2,h3,h4,h5,h6,hok,fly,hE⟩:=hf
 have fly':Heap.FlyingW B (X.env::X.outer) a (.ref C) a0 s'.heap:=by rw[← hst];exact fly
 refine wpAny_leaves_onW (I.ok.frames.trans (by rw[hst])) hfr fly' fun h2' x1 x2=>?_
 refine⟨a,C,a0,H',B,rfl,hos.trans I.os,hbare,fun b o q hb=>?_,fun b o q hb=>?_,fun b o q n=>?_,fun b xs q=>h4 b xs (I.base.tups b xs q),fun b o u q=>h5 b o u (I.base.frzs b o u q),fun b ps q=>?_,hok,x1,hE⟩
 ·obtain ⟨o1,e1⟩:=I.base.there b o q (nex b)
  have hbs:b∉frs X.stack:=fun z=>by
   rw[hstk] at z
   rcases List.mem_cons.mp z with z|z
   ·exact absurd (Heap.lt_size q) (Nat.not_lt.mpr (z▸I.ok.above))
   ·exact hb z
  obtain⟨o2,e2,k2⟩:=h1 b o1 e1 hbs
  refine⟨o2,e2,fun n=>?_⟩
  have e3:=I.base.keep b o q n hb (nex b)
  rw[e1] at e3
  rw[k2 (I.base.free b o q n (nex b))]
  exact Option.some.inj e3
 ·obtain⟨sl,e1⟩:=I.base.slot b o q (I.fr0 hb).1 hb (nex b)
  have hb2:b∈frs X.stack:=by rw[hstk];exact List.mem_cons_of_mem _ hb
  obtain⟨sl2,e2⟩:=h2 b _ e1 hb2
  obtain⟨_,o3,e3,nf⟩:=fly.2.2.1.mem hb2
  rw[e2] at e3
  obtain rfl:=Option.some.inj e3
  obtain⟨sl3,e4⟩:=x2 b _ e2 nf
  exact⟨sl3,e4⟩
 ·obtain⟨o1,e1⟩:=I.base.there b o q (nex b)
  exact h3 b o1 e1 (I.base.free b o q n (nex b))
 ·obtain⟨m1,e1⟩:=I.base.tbls b ps q
  obtain⟨m2,e2⟩:=h6 b _ e1
  exact⟨m1++m2,by rw[e2,Array.append_assoc]⟩
end
theorem xP {P:Program}{w:World}{K:PySem.W.Frag}{mg:Str→Option Value}{base:Heap}{N:List Str}{qual:Str}{scope:Scope}{f:Addr}{cd:Value}{A:Around}{outer:List Env}{s:Shared}{H:Hp}{E:XK} :
  zcY (CX1 P w) (zas (CX1 P w) P w K mg base N qual scope f cd A outer s H E) E:=fun pins σ H' s' e s'' I hf=>zit I rfl rfl rfl hf
theorem Fun.okX {P:Program}{w:World}{K:PySem.W.Frag}{mg:Str→Option Value}{base:Heap}{x qual:Str}{st:Stmt}{f:Addr}{fd:FuncData}{N ps:List Str}{k:Nat}{sp:Sp}(F:Fun K x qual st f fd)(S:FnScope N ps (zj st))(len:∀vs H Q E,sp vs H Q E→vs.length=ps.length)
  (hbody:∀(cdv:Value) (A:Around) (outer:List Env) (s:Shared) (H:Hp) (vs:List V) (Q:VK) (E:XK),Room k (A.deeper (envOfC qual (zj st) s.heap.objs.size f cdv))→sp vs H Q E →
   ∃t,PSs (zas (CX1 P w) P w K mg base N qual (zj st) f cdv A outer s H E) (zG st) t∧t {nx:=fun _ H'=>Q .non H',rt:=Q} (start N vs) H):FnOk P w K mg base (CX1 P w) (k+1) f fd ps sp:=by
 obtain⟨oc,od,kV,doc,pm,an,cdv,ct,osl,rfl,lk,hcd⟩:=F.ex
 exact zlq lk hcd S len fun A outer s H vs Q E hr hsp=>hbody cdv A outer s H vs Q E hr hsp
theorem PS.nox {X:Cx}{st:Stmt}{t:TS}(h:PS X.nox st t):PS X st t:=fun pins s σ H D I hw =>
 wpAny_mono (h pins s σ H D (I.wish _) hw) (fun _ _ q=>q.unwish) fun _ _ z=>False.elim z
theorem PA.nox {X:Cx}{es:List Expr}{t:TA}(h:PA X.nox es t):PA X es t:=fun pos pins s σ H Q I hw =>
 wpAny_mono (h pos pins s σ H Q (I.wish _) hw) (fun _ _ ⟨v,H',I',r,q⟩=>⟨v,H',I'.unwish,r,q⟩) fun _ _ z=>False.elim z
structure Own (K:PySem.W.Frag)(mg:Str→Option Value)(x:Str) where
 C:Addr
 mgx:mg x=some (.ref C)
 exc:PySem.W.excIn K C [.type "ValueError", .type "Exception", .type "BaseException", .type "object"] "ValueError.__new__" = true
inductive ExcD (o:Option Obj)(A:Option Addr→ClassData→Array (Option Value)→Bool):Prop
 | mk (dd:Option Addr) (cd:ClassData) (sl:Array (Option Value)) (e:o=some ⟨.type "type", dd,.cls cd,sl⟩) (q:A dd cd sl=true)
inductive ExcR (x:List Value)(y:List (Option Value))(A:Addr→List Value→Option Value→Option Value→Option Value→Option Value→String→Option Value→Bool):Prop
 | mk (C':Addr) (bm:List Value) (k0 k1 k2 k3:Option Value) (n:String) (k5:Option Value) (e:x=.ref C'::bm) (f:y=[k0,k1,k2,k3,some (.builtin n),k5]) (q:A C' bm k0 k1 k2 k3 n k5=true)
inductive ExcO (h:Heap)(C:Addr)(bmB:List Value)(newId:String):Prop
 | mk (bm:List Value) (N:Addr) (nm qn:Str) (bs:List Value) (hdct:Bool) (sn:List Str) (sub:List Value) (ab:Bool) (col:Option Bool) (dd:Option Addr) (k0 k1 k2 k3 k5:Option Value) (mN:Str→Option Value)
   (hC:h.get? C=some (excClassObj nm qn C N bs bm hdct sn sub ab col dd k0 k1 k2 k3 k5 newId)) (hN:h.Ns N mN) (hni:mN "__init__" = none) (T:OwnTail h bmB bm)
theorem zkK {o:Option Obj}{A:Option Addr→ClassData→Array (Option Value)→Bool}(q:PySem.W.excIn.match_6 (fun _=>Bool) o A (fun _=>false)=true):ExcD o A:=by
 rcases o with _|⟨c,dd,da,sl⟩
 ·exact absurd q Bool.false_ne_true
 ·cases c
  all_goals first|exact absurd q Bool.false_ne_true|skip
  rename_i s
  by_cases hs:s = "type"
  ·subst hs
   cases da
   all_goals first|exact absurd q Bool.false_ne_true|exact⟨_,_,_,rfl,q⟩
  ·delta PySem.W.excIn.match_6 at q
   exact absurd ((dif_neg hs).symm.trans q) Bool.false_ne_true
theorem zlx {x:List Value}{y:List (Option Value)}{A:Addr→List Value→Option Value→Option Value→Option Value→Option Value→String→Option Value→Bool}(q:PySem.W.excIn.match_1 (fun _ _=>Bool) x y A (fun _ _=>false)=true):ExcR x y A:=by
 rcases x with _|⟨v,bm⟩
 ·exact absurd q Bool.false_ne_true
 cases v
 all_goals first|exact absurd q Bool.false_ne_true|skip
 rcases y with _|⟨k0,_|⟨k1,_|⟨k2,_|⟨k3,_|⟨k4,y⟩⟩⟩⟩⟩
 all_goals first|exact absurd q Bool.false_ne_true|skip
 rcases k4 with _|k4
 ·exact absurd q Bool.false_ne_true
 cases k4
 all_goals first|exact absurd q Bool.false_ne_true|skip
 rcases y with _|⟨k5,_|⟨k6,y⟩⟩
 all_goals first|exact absurd q Bool.false_ne_true|exact⟨_,_,_,_,_,_,_,_,rfl,rfl,q⟩
theorem zf4 {K:PySem.W.Frag}{h:Heap}{C:Addr}{bmB:List Value}{newId:String}(X:K.In h)(q:PySem.W.excIn K C bmB newId=true):ExcO h C bmB newId:=by
 obtain⟨dd,cd,sl,ho,q⟩:=zkK q
 obtain⟨C',bm,k0,k1,k2,k3,n,k5,hm,hs,q⟩:=zlx q
 simp only[Bool.and_eq_true,beq_iff_eq,Bool.not_eq_true'] at q
 obtain⟨⟨⟨⟨⟨rfl,rfl⟩,hdel⟩,ht⟩,hok⟩,hni⟩:=q
 obtain⟨nm,bs,mro,ns,qn,hd,sn,sub,ab,col,del⟩:=cd
 obtain⟨l⟩:=sl
 dsimp only at hm hdel hok hni hs
 subst hm hdel hs
 exact⟨bm,ns,nm,qn,bs,hd,sn,sub,ab,col,dd,k0,k1,k2,k3,k5,_,X _ _ ho,.of_isNs (PySem.W.isNs_of_in X hok),PySem.W.nsMap_none_of_in X hok hni,PySem.W.tail_of_in X ht⟩
def zlf (C:Addr)(E:XK)(t:TA):TS:=fun _ σ H=>t σ H fun vs H1=>vs.length≤3∧E (.ref C) none H1
section
variable {P:Program}{w:World}{K:PySem.W.Frag}{mg:Str→Option Value}{base:Heap}{N:List Str}{qual:Str}{scope:Scope}{f:Addr}{cd:Value}{A:Around}{outer:List Env}{s₁:Shared}{H₁:Hp}{E:XK}
theorem zhz {x:Str}{e₀:Expr}{rest:List Expr}{np cpos pos:Pos}{t:TA}(O:Own K mg x)(hg:Gl (zas (CX1 P w) P w K mg base N qual scope f cd A outer s₁ H₁ E) x)
  (ha:PA (zas (CX1 P w) P w K mg base N qual scope f cd A outer s₁ H₁ E) (e₀::rest) t)
  (he:starEach (e₀::rest) (zas (CX1 P w) P w K mg base N qual scope f cd A outer s₁ H₁ E).env=(false,eval e₀ (zas (CX1 P w) P w K mg base N qual scope f cd A outer s₁ H₁ E).env)::starEach rest (zas (CX1 P w) P w K mg base N qual scope f cd A outer s₁ H₁ E).env:=by rfl)
  (hpl:(backTo cpos (starEach rest (zas (CX1 P w) P w K mg base N qual scope f cd A outer s₁ H₁ E).env)).any (·.1)=false:=by rfl) (hd:(x == ("__debug__" : Str))=false:=by decide) :
  PS (zas (CX1 P w) P w K mg base N qual scope f cd A outer s₁ H₁ E) (.Raise (some (.Call (.Name x np) (e₀::rest) [] cpos)) none pos) (zlf O.C E t):=by
 intro pins s σ H D I h
 obtain⟨tl,Na,nm,q,bs,hdct,sn,sub,ab,col,dd,k0,k1,k2,k3,k5,mN,hC,hN,hni,T⟩:=zf4 I.ok.mod.kin O.exc
 refine wpAny_Raise_call_subT (C:=O.C) (nm:=nm) (q:=q) (N:=Na) (bs:=bs) (bm:=tl) (hdct:=hdct) (sn:=sn) (sub:=sub) (ab:=ab) (col:=col) (dd:=dd) (k0:=k0) (k1:=k1) (k2:=k2) (k3:=k3) (k5:=k5)
  PySem.F.excBase_ValueError (mN:=mN) (T.hasType PySem.F.excBase_ValueError.hasBase) (I.ok.hd rfl) (by rw[he];show(false || (backTo cpos (starEach rest (zas (CX1 P w) P w K mg base N qual scope f cd A outer s₁ H₁ E).env)).any (·.1))=false;rw[hpl];rfl) hni (zab I hg O.mgx ⟨rfl,?_⟩ hd)
 have h':=ha cpos pins s σ H _ I h
 rw[he] at h' ⊢
 refine Calls.evalArgs_plain (wpAny_mono h' (fun us s₂ ⟨vs,H2,I2,r,hz,q⟩=>⟨rfl,?_,I2.bk _ _ hC,hN.keeps I2.bk,T.keeps I2.bk,fun h'' e hm=>zfK I2 rfl rfl rfl hm q⟩) fun _ _ y=>y)
 rw[← r.length,sizeLine_eq]
 omega
end
end L2
namespace L2
open PySem PySem.Spec PyProof.Rows
def excAt (a C:Addr):HO:=.ext fun h=>∃o,h.get? a=some o∧o.cls=.ref C
abbrev Cx.hand (X:Cx)(a:Addr):Cx:={X with A:=X.A.mark (some (.ref a)),calm:=false,xe:=fun _ _=>False}
section
variable {X:Cx}{pins:List (Addr×Obj)}{σ:St}{H:Hp}{s:Shared}
theorem Cx.Ok.hand (ok:X.Ok)(a:Addr):(X.hand a).Ok :=
 ⟨ok.mod,ok.kind,ok.glob,ok.blt,ok.above,ok.inj,ok.has,ok.cab,fun z=>(by cases z),ok.frames,ok.stk,ok.exf,ok.bs,ok.bsz,ok.noex,ok.exfs,ok.funs,ok.frf⟩
theorem Inv.hand (I:Inv X pins σ H s)(a:Addr):Inv (X.hand a) pins σ H s:=⟨I.ok.hand a,I.os,I.bare,I.base,I.loc,I.cell,I.free,I.freeC,I.pin,I.hok,I.len⟩
theorem Inv.unhand {a:Addr}(ok:X.Ok)(I:Inv (X.hand a) pins σ H s):Inv X pins σ H s:=⟨ok,I.os,I.bare,I.base,I.loc,I.cell,I.free,I.freeC,I.pin,I.hok,I.len⟩
theorem Inv.gone {h':Heap}{m':Str→Option Value}{t':Nat}(I:Inv X pins σ H s)(hn:h'.Ns X.env.locals m')(hs:Heap.SameBut X.env.locals s.heap h'):Inv X pins (List.replicate X.N.length none) H {s with heap:=h',toks:=t'}:=by
 have cne:=I.cne
 obtain⟨m,hn0,hl⟩:=id I.loc
 obtain⟨oL,_,_,hoL,_⟩:=id hn0
 refine⟨I.ok,I.os,I.bare,⟨fun b o e n hb hx=>?_,fun b o e n hb hx=>?_,I.base.free,fun b o e hx=>?_,I.base.tups,I.base.frzs,I.base.tbls⟩,⟨m',hn,fun j y v' e1 e2 e3=>?_⟩,fun y c e=>?_,I.free,I.freeC,fun p hp=>?_,fun b ob e=>?_,by simp⟩
 ·exact(hs.2 b (Nat.ne_of_lt (Nat.lt_of_lt_of_le (Heap.lt_size e) I.ok.above))).trans (I.base.keep b o e n hb hx)
 ·obtain⟨sl,e1⟩:=I.base.slot b o e n hb hx
  exact⟨sl,(hs.2 b (Nat.ne_of_lt (Nat.lt_of_lt_of_le (Heap.lt_size e) I.ok.above))).trans e1⟩
 ·obtain⟨o',e1⟩:=I.base.there b o e hx
  exact⟨o',(hs.2 b (Nat.ne_of_lt (Nat.lt_of_lt_of_le (Heap.lt_size e) I.ok.above))).trans e1⟩
 ·rw[List.getElem?_replicate] at e2
  split at e2 <;>cases e2
 ·obtain⟨w',z⟩:=I.cell y c e
  exact⟨w',z.sameBut hs (cne y c e)⟩
 ·obtain⟨e,n,ne,nf,d⟩:=I.pin p hp
  exact⟨(hs.2 p.1 ne).trans e,n,ne,nf,d⟩
 ·refine(I.hok b ob e).stay (fun c w' hc q=>(hs.2 c ?_).trans q) (fun _ q=>q) fun _ _ q=>q
  rintro rfl
  rcases hc with z|hc
  ·rw[← z,I.free] at e;cases e
  ·rw[I.free] at hc;cases hc
end
section
variable {M:Model}{A:Around}{E:Value→Shared→Prop}{s:Shared}
theorem zby {K:PySem.W.Frag}{e C C0:Addr}{oe:Obj}{Q:Bool→Shared→Prop}(X:K.In s.heap)(he:s.heap.get? e=some oe)(hc:oe.cls=.ref C)
  (x0:PySem.W.excIn K C0 [.type "ValueError", .type "Exception", .type "BaseException", .type "object"] "ValueError.__new__" = true) (sub:PySem.W.subIn K (.ref C) (.ref C0)=some true) (h:Q true s):wpAny M A (excMatches (.ref e) (.ref C0)) Q E s:=by
 obtain⟨tl,Na,nm,q,bs,hdct,sn,sub',ab,col,dd,k0,k1,k2,k3,k5,mN,hC,hN,hni,T⟩:=zf4 X x0
 have hcB:(Value.ref C0::tl).contains (.type "BaseException")=true:=by rw[List.contains_cons,T.hasType PySem.F.excBase_ValueError.hasBase,Bool.or_true]
 have L:PySem.W.Looks M s.heap (isSubtype (.ref C) (.ref C0)) true:=PySem.W.looks_subIn X sub
 obtain⟨hp,g,d,tk,os⟩:=s
 have f:=tc_notTuple
 unfold excMatches
 repeat (first|(with_reducible refine wpAny_loadPart_at he ?_;rw[hc])|with_reducible refine wpAny_loadPart_at hC ?_|(with_reducible refine wpAny_isSubtype_exc hC ?_;rw[hcB])|wp_step)
 refine L.at ?_
 repeat wp_step
 exact h
end
theorem zhq {P:Program}{w:World}{H:Hp}{h:Heap}{a:Addr}{o:HO}(x:ObjOk P w H h a o):∃ob,h.get? a=some ob:=by
 cases o with
 | lst xs=>obtain⟨_,_,_,_,e⟩:=x;exact⟨_,e⟩
 | tup xs=>obtain⟨_,_,_,ob,e,_⟩:=x;exact⟨_,e⟩
 | dK kvs=>obtain⟨_,_,_,_,o,_,_,e,_⟩:=x;exact⟨_,e⟩
 | dT kvs=>obtain⟨_,_,_,_,o,_,_,e,_⟩:=x;exact⟨_,e⟩
 | set S n=>obtain⟨o,_,_,_,e,_⟩:=x;exact⟨_,e⟩
 | ins C dx fs=>obtain⟨_,_,_,e,_⟩:=x;exact⟨_,e⟩
 | own y=>exact x
 | xd fs=>obtain⟨_,⟨_,_,_,e,_⟩,_⟩:=x;exact⟨_,e⟩
 | rng lo hi=>obtain⟨_,_,_,e⟩:=x;exact⟨_,e⟩
 | frz ob u=>obtain⟨e,_⟩:=x;exact⟨_,e⟩
 | tbl ps=>exact⟨_,x⟩
 | met f y=>exact⟨_,x⟩
 | ext φ=>obtain⟨_,e,_⟩:=x;exact e
theorem zeG {outer:List Env}{H H':Hp}{B h h':Heap}(frf:∀b∈frs outer,H b=none)
  (h1:∀b o,h.get? b=some o→b∉frs outer→∃o',B.get? b=some o'∧(H b=none→o'=o)) (h2:∀b o,h.get? b=some o→b∈frs outer→∃sl,h'.get? b=some {o with slots:=sl})
  (h3:∀b o,h.get? b=some o→H b=none→H' b=none) (h4:∀b xs,H b=some (.tup xs)→H' b=some (.tup xs)) (h5:∀b o u,H b=some (.frz o u)→H' b=some (.frz o u)) (h6:∀b ps,H b=some (.tbl ps)→∃more,H' b=some (.tbl (ps++more)))
  (st:B.StaysIn h'):Un (frs outer) [] H H' h h':=by
 refine⟨fun b o e n hb _=>?_,fun b o e n hb _=>h2 b o e hb,fun b o e n _=>h3 b o e n,fun b o e _=>?_,h4,h5,h6⟩
 ·obtain⟨o',e1,k⟩:=h1 b o e hb
  rw[← k n]
  exact st b o' e1
 ·by_cases hb:b∈frs outer
  ·obtain⟨sl,e1⟩:=h2 b o e hb
   exact⟨_,e1⟩
  ·obtain⟨o',e1,_⟩:=h1 b o e hb
   exact⟨o',st b o' e1⟩
section
variable {X:Cx}{pins:List (Addr×Obj)}{σ:St}{H:Hp}{s s':Shared}{E:XK}{e:Value}{x n:Str}{i:Nat}{b₀:Stmt}{suite:List Stmt}{th:TS}{D:Ends}{np pos:Pos}{rest:List ExceptHandler}
def ziD (K:PySem.W.Frag)(C0:Addr)(i:Nat)(th:TS)(D:Ends)(σ:St):XK:=fun cls _ H'=>∃C,cls=.ref C∧PySem.W.subIn K (.ref C) (.ref C0)=some true ∧
 ∀a,H' a=none→th {nx:=fun _ _=>False,rt:=D.rt} (σ.set i (some (.ref a))) (upd H' a (excAt a C))
theorem caught (I:Inv X pins σ H s)(hst:X.stack=X.env::X.outer)(hfr:X.env.frame=some X.env.locals)(O:Own X.K X.mg x)(hg:Gl X x)(hN:X.N.Nodup)(hi:X.N[i]? = some n)(hlo:X.env.scope.names.lookup n=some .local)
  (hs:∀a,PSs (X.hand a) (b₀::suite) th) (hf:zdw X.prog X.w X.stack H s (ziD X.K O.C i th D σ) e s') (hd:(x == ("__debug__" : Str))=false:=by decide) :
  wpAny (model X.prog X.w) X.A (noteFrame e X.env) (fun _ s₂=>wpAny (model X.prog X.w) X.A (setFlight e none) (fun _ s₃ =>
   wpAny (model X.prog X.w) X.A (handleBy e X.env (.ExceptHandler (some (.Name x np)) (some n) (b₀::suite) pos::rest)) (SP X pins D) X.xe s₃) X.xe s₂) X.xe s':=by
 have hstk:frs X.stack=X.env.locals::frs X.outer:=by rw[hst];exact zb7 hfr
 obtain⟨a,C,a0,H',B,rfl,hos,hbare,h1,h2,h3,h4,h5,h6,hok,fly,C',eC,sub,kk⟩:=hf
 cases eC
 have fly':Heap.FlyingW B (X.env::X.outer) a (.ref C) a0 s'.heap:=by rw[← hst];exact fly
 have ffr:∀b∈frs X.stack,∃o,s'.heap.get? b=some o∧∀vs,o.data≠.fields vs:=fun b hb=>(fly.2.2.1.mem hb).2
 have slots:∀{h':Heap},s'.heap.UpToSlots h'→∀b o,s.heap.get? b=some o→b∈frs X.stack→∃sl,h'.get? b=some {o with slots:=sl}:=fun {h'} u b o q hb=>by
  obtain⟨sl,e1⟩:=h2 b o q hb
  obtain⟨o2,e2,nf⟩:=ffr b hb
  rw[e1] at e2
  obtain rfl:=Option.some.inj e2
  obtain⟨sl2,e3⟩:=u b _ e1 nf
  exact⟨sl2,e3⟩
 refine wpAny_looks_onW (I.ok.frames.trans (by rw[hst])) hfr fly' fun h₄ held₄ sm₄=>?_
 refine wpAny_landsW held₄ fun h₅ fly₅ sm₅=>?_
 have sm5:=sm₄.trans sm₅
 have I5:Inv X pins σ H' {s' with heap:=h₅}:=I.call' hos (zeG I.stkFree h1 (slots sm5) h3 h4 h5 h6 fly₅.1) (hok.kept fly₅.1) hbare (fun _ z=>nomatch z)
 obtain⟨ob,hob,hobc⟩:=fly₅.there
 refine wpAny_handleBy_cons (codeAny_handlers_test (zab (X:=X.hand a) (I5.hand a) hg O.mgx ?_ hd)) (by intro q;cases q)
 refine zby I5.kIn hob hobc O.exc sub ?_
 refine codeAny_handlers_suite_as ?_
 refine lands_againW fly₅ fun h₆ fly₆ sm₆=>?_
 have sm6:=sm5.trans sm₆
 have hBa:B.get? a=none:=fly₆.2.1
 obtain⟨oe,vs,he6,hec,hed,_⟩:=fly₆.first
 have hnew:∀o,s.heap.get? a≠some o:=fun o q=>by
  by_cases hb:a∈frs X.stack
  ·obtain⟨_,o2,e2,nf⟩:=fly₆.2.2.1.mem (by rw[← hst];exact hb)
   rw[he6] at e2
   obtain rfl:=Option.some.inj e2
   exact nf vs hed
  ·obtain⟨o',e1,_⟩:=h1 a o q hb
   rw[hBa] at e1;cases e1
 have hHa:H' a=none:=by
  cases q:H' a with
  | none=>rfl
  | some o =>
   obtain⟨o2,e2⟩:=zhq (hok a o q)
   rw[hBa] at e2;cases e2
 have ok6:HOk X.prog X.w (upd H' a (excAt a C)) h₆:=fun b o q=>by
  by_cases hb:b=a
  ·subst hb
   rw[yg] at q
   obtain rfl:=Option.some.inj q
   exact⟨⟨oe,he6,hec⟩,⟨oe,he6⟩,fun k1 k2 ⟨o1,e1,c1⟩ kk=>⟨o1,kk o1 e1,c1⟩⟩
  ·rw[zU hb] at q
   exact(hok b o q).stay (fun c u _ e1=>fly₆.1 c u e1) (fun c e1=>by rw[zU (yM e1 hHa)];exact e1) fun c xs e1=>by rw[zU (yM e1 hHa)];exact e1
 have un6:Un (frs X.stack) [] H (upd H' a (excAt a C)) s.heap h₆:=zeG I.stkFree h1 (slots sm6) (fun b o q nn=>by
   have hba:b≠a:=fun z=>by rw[z] at q;exact hnew o q
   rw[zU hba];exact h3 b o q nn)
  (fun b xs q=>by rw[zU (yM (h4 b xs q) hHa)];exact h4 b xs q) (fun b o u q=>by rw[zU (yM (h5 b o u q) hHa)];exact h5 b o u q)
  (fun b ps q=>by obtain⟨m,q2⟩:=h6 b ps q;exact⟨m,by rw[zU (yM q2 hHa)];exact q2⟩) fly₆.1
 have I6:Inv X pins σ (upd H' a (excAt a C)) {s' with heap:=h₆}:=I.call' hos un6 ok6 hbare (fun _ z=>nomatch z)
 refine zaI (X:=X.hand a) (I6.hand a) hN hi (.inl hlo) (v:=.ref a) rfl (fun s₇ I7=>?_) (.inr hlo)
 refine wpAny_mono (hs a pins s₇ _ _ _ I7 (kk a hHa)) (fun f s₈ h8=>?_) fun _ _ z=>False.elim z
 cases f with
 | ret u =>
  obtain⟨v,σ',H'',J,rv,q⟩:=h8
  have J':Inv X pins σ' H'' s₈:=J.unhand I.ok
  obtain⟨m,hn0,_⟩:=id J'.loc
  have hcls:(X.env.scope.kind == .class || (X.env.scope.kind == .module&&X.env.locals != X.env.globals))=false:=by rw[I.ok.kind];rfl
  exact wpAny_nameGoes hlo hn0 hcls fun h9 m9 n9 s9=>⟨v,_,H'',J'.gone n9 s9,rv,q⟩
 | next=>obtain⟨_,_,_,z⟩:=h8;exact False.elim z
 | brk=>obtain⟨_,_,_,z⟩:=h8;exact False.elim z
 | cont=>obtain⟨_,_,_,z⟩:=h8;exact False.elim z
end
end L2
namespace L2
open PySem PySem.Spec PyProof.Rows
structure ExcK (K:PySem.W.Frag)(C:Addr):Prop where
 ga:PySem.W.findIn K (.ref C) "__getattribute__" = some (some (.builtin "BaseException.__getattribute__"))
 gt:PySem.W.findIn K (.ref C) "__getattr__" = some none
 cl:PySem.W.findIn K (.ref C) "__class__" = some (some (.builtin "object.__class__"))
 be:PySem.W.subIn K (.ref C) (.type "BaseException")=some true
 ob:PySem.W.subIn K (.ref C) (.type "object")=some true
 is:(PySem.W.clsIn K C).isSome=true
section
variable {prog:Program}{w:World}{A:Around}{E:Value→Shared→Prop}{h:Heap}{g:Array GenState}{d:Drawn}{t:Nat}{os:OsState}{K:PySem.W.Frag}{a C:Addr}{o:Obj}
theorem zch {R:Result→Shared→Prop}(z:ExcK K C)(X:K.In h)(hx:h.get? a=some o)(hc:o.cls=.ref C)(hq:R (.ok (.ret (.ref C))) ⟨h,g,d,t,os⟩) :
  codeAny (model prog w) A (.call (.builtin "getset_descriptor.__get__") ⟨[.builtin "object.__class__", .ref a,.ref C],[]⟩) R ⟨h,g,d,t,os⟩:=by
 have hT5:(⟨h,g,d,t,os⟩:Shared).TypeIs (.builtin "object.__class__") "getset_descriptor" := F.typeOf_object_class
 have L:PySem.W.Looks (model prog w) h (isSubtype (.ref C) (.type (".".intercalate ("object.__class__".cutAt '.').dropLast))) true:=by
  rw[F.owner_object_class]
  exact PySem.W.looks_subIn X z.ob
 refine codeAny_call_builtin F.slot_gs_get.plain F.entry_gs_get (F.slot_gs_get.check _ _ _ _ _ _ _ _ hT5 (F.args_gs_get _ _ _) ?_)
 repeat (any_goals (first|assumption|(with_reducible refine wpAny_loadPart_at hx ?_;rw[hc])|with_reducible refine PySem.W.Looks.at L ?_|wp_step))
 refine⟨Code.quiet_builtin _ (by decide +kernel),codeAny_builtin F.entry_object_class ?_⟩
 repeat (any_goals (first|assumption|(with_reducible refine wpAny_loadPart_at hx ?_;rw[hc])|wp_step))
theorem zaT {tk:Tok}{Q:Fin→Shared→Prop}(z:ExcK K C)(X:K.In h)(hx:h.get? a=some o)(hc:o.cls=.ref C)(hq:Q (.done (.ret (.ref C))) ⟨h,g,d,t,os⟩) :
  wpAny (model prog w) A (Builtin.«object.__getattribute__» ⟨[.ref a,.str "__class__" tk],[]⟩) Q E ⟨h,g,d,t,os⟩:=by
 have hT5:(⟨h,g,d,t,os⟩:Shared).TypeIs (.builtin "object.__class__") "getset_descriptor" := F.typeOf_object_class
 have L:PySem.W.Looks (model prog w) h (typeLookup (.ref C) "__class__") (some (.builtin "object.__class__")):=PySem.W.looks_findIn X z.cl
 have f5:=F.typeOf_object_class
 have f6:=F.slot_gs_get.lookup
 have f7:=F.slot_gs_set.lookup
 repeat (any_goals (first|assumption|(with_reducible refine wpAny_loadPart_at hx ?_;rw[hc])|with_reducible refine PySem.W.Looks.at L ?_|wp_step))
 refine zch z X hx hc ?_
 repeat (any_goals (first|assumption|wp_step))
theorem zgb {M:Model}{nameV:Value}{Q:Unit→Shared→Prop}(z:ExcK K C)(X:K.In h)(hx:h.get? a=some o)(hc:o.cls=.ref C)(hq:Q () ⟨h,g,d,t,os⟩):wpAny M A (checkBuiltinCall "BaseException.__getattribute__" ⟨[.ref a,nameV],[]⟩) Q E ⟨h,g,d,t,os⟩:=by
 have hk:builtinKind "BaseException.__getattribute__" = some .slot:=by decide +kernel
 have hsplit:splitId "BaseException.__getattribute__" = some ("BaseException", "__getattribute__"):=by decide +kernel
 have L:PySem.W.Looks M h (isSubtype (.ref C) (.type "BaseException")) true:=PySem.W.looks_subIn X z.be
 have ha:=F.args_bexc_ga (.ref a) nameV
 simp only[checkBuiltinCall,hk,hsplit]
 refine wpAny_bind ?_
 unfold isInstance
 repeat (first|(with_reducible refine wpAny_loadPart_at hx ?_;rw[hc])|with_reducible refine PySem.W.Looks.at L ?_|wp_step)
 exact hq
theorem zbz {tk:Tok}{R:Result→Shared→Prop}(z:ExcK K C)(X:K.In h)(hx:h.get? a=some o)(hc:o.cls=.ref C)(hq:R (.ok (.ret (.ref C))) ⟨h,g,d,t,os⟩) :
  codeAny (model prog w) A (.call (.builtin "BaseException.__getattribute__") ⟨[.ref a,.str "__class__" tk],[]⟩) R ⟨h,g,d,t,os⟩ :=
 codeAny_call_builtin F.excAttr_ValueError.ga.plain F.entry_bexc_ga (zgb z X hx hc (zaT z X hx hc hq))
theorem zcX {tk:Tok}{Q:Value→Shared→Prop}(z:ExcK K C)(X:K.In h)(hx:h.get? a=some o)(hc:o.cls=.ref C)(hq:Q (.ref C) ⟨h,g,d,t,os⟩):wpAny (model prog w) A (getAttrBy (.ref a) (.str "__class__" tk) false) Q E ⟨h,g,d,t,os⟩:=by
 have f3:=F.excAttr_ValueError.ga.bind (.ref a)
 have hx2:(Value.builtin "BaseException.__getattribute__" == Value.builtin "object.__getattribute__")=false:=by decide +kernel
 have hx1:(onTheHeap (Value.ref C)&&Value.builtin "BaseException.__getattribute__" == Value.builtin "object.__getattribute__")=false:=by rw[hx2];rfl
 have L1:PySem.W.Looks (model prog w) h (typeLookup (.ref C) "__getattribute__") (some (.builtin "BaseException.__getattribute__")):=PySem.W.looks_findIn X z.ga
 have L2:PySem.W.Looks (model prog w) h (typeLookup (.ref C) "__getattr__") none:=PySem.W.looks_findIn X z.gt
 repeat (any_goals (first|assumption|(with_reducible refine wpAny_loadPart_at hx ?_;rw[hc])|with_reducible refine PySem.W.Looks.at L1 ?_|with_reducible refine PySem.W.Looks.at L2 ?_|wp_step))
 refine zbz z X hx hc ?_
 repeat (any_goals (first|assumption|wp_step))
theorem zbo {Q:Option Value→Shared→Prop}(z:ExcK K C)(X:K.In h)(hx:h.get? a=some o)(hc:o.cls=.ref C)(hq:Q (some (.ref C)) ⟨h,g,d,t+1,os⟩):wpAny (model prog w) A (getAttr? (.ref a) "__class__") Q E ⟨h,g,d,t,os⟩:=by
 unfold getAttr? getAttrBy?
 repeat (any_goals (first|assumption|with_reducible apply zcX z X hx hc|wp_step))
end
theorem zeM {K:PySem.W.Frag}{a C:Addr}(z:ExcK K C):PySem.W.KitX K (.ref a) (.ref C) (fun h=>∃o,h.get? a=some o∧o.cls=.ref C) where
 ty:=fun M h X ⟨o,h1,h2⟩=>h2▸(PySem.W.Looks.ld h1).andThen .now
 it := fun _ _ X _=>by
  have hcD:=z.is
  unfold PySem.W.clsIn at hcD
  split at hcD
  ·rename_i c' d' cd' sl' ho
   intro A' Q' E' s' k q
   unfold isType loadHead
   exact wpAny_bind (wpAny_loadPart (k _ _ (X _ _ ho)) (wpAny_pure q))
  ·cases hcD
 ne := fun h tp dd its n sl X htp=>by
  have hcD:=z.is
  refine Bool.eq_false_iff.mpr fun q=>?_
  have e:C=tp:=Value.ref.inj (beq_iff_eq.mp q)
  subst e
  unfold PySem.W.clsIn at hcD
  split at hcD
  ·rename_i c' d' cd' sl' ho
   have z:=(X _ _ ho).symm.trans htp
   cases z
  ·cases hcD
 ca:=fun {_ _ _ _ _ s} X ⟨o,h1,h2⟩ k=>by
  obtain⟨h,g,d,t,os⟩:=s
  exact zbo z X h1 h2 k
section
variable {X:Cx}
theorem zdp:qR X (.builtin "isinstance") (fun xs H Q=>∃a C v b,xs=[.ref a,v]∧H a=some (excAt a C)∧ExcK X.K C∧((∃C',v=.ref C'∧PySem.W.kitOne X.K (.ref C) (.ref C')=some b)∨(∃n,v=.ty n∧PySem.W.kitOne X.K (.ref C) (.type n)=some b))∧Q (.bl b) H):=by
 intro pins s σ H xs us Q I r h
 obtain⟨a,C,v,b,rfl,ha,z,hv,q⟩:=h
 obtain⟨u,u2,rfl,ru,r2⟩:=vals2 r
 cases ru
 have fin:∀tk,EP X pins σ Q (.bool b) {s with toks:=tk}:=fun tk=>⟨.bl b,H,I.tok _,rfl,q⟩
 have hx:∃o,s.heap.get? a=some o∧o.cls=.ref C:=(I.hok a _ ha).1
 rcases hv with⟨C',rfl,e⟩|⟨n,rfl,e⟩
 ·cases r2
  exact PySem.W.kia_one (zeM z) I.kIn hx e (fun z=>nomatch z) fin
 ·cases r2
  exact PySem.W.kia_one (zeM z) I.kIn hx e (fun z=>nomatch z) fin
end
section
variable {X:Cx}{CX:CXT}{k:Nat}{f:Addr}{fd:FuncData}{ps:List Str}{sp:Sp}{E:XK}{x y n:Str}{p np cpos rpos hpos pos:Pos}{e:Expr}{es:List Expr}{t:TA}{i:Nat}{b₀:Stmt}{suite:List Stmt}{th:TS}{more:List ExceptHandler}
theorem zk4 {pins:List (Addr×Obj)}{σ:St}{H:Hp}{s:Shared}{Q:VK}{us:List Value}{vs:List V}{F':Value→Shared→Prop}(F:FnOk X.prog X.w X.K X.mg X.base CX k f fd ps sp)(hr:Room k X.A)(hb:Binds X.K fd ps [])
  (hx:∀H s e s',Inv X pins σ H s→CX X.stack H s E e s'→F' e s') (I:Inv X pins σ H s) (r:Vals vs us) (h:sp vs H Q E):wpAny (model X.prog X.w) X.A (call (.ref f) us) (EP X pins σ Q) F' s:=by
 have hl:us.length=ps.length:=by rw[← r.length];exact F.len _ _ _ _ h
 have hb':=hb s us I.kIn (by rw[List.append_nil];exact hl)
 rw[List.append_nil] at hb'
 refine wpAny_call (codeAny_mono (F.run X.A X.stack s H ⟨us,[]⟩ us vs Q E hr I.env0 hb' r h) fun r s' hq=>?_)
 cases r with
 | error e=>exact hx H s e s' I hq
 | ok fl =>
  cases fl with
  | ret u=>exact I.after hq
  | next=>exact False.elim hq
  | brk=>exact False.elim hq
  | cont=>exact False.elim hq
end
end L2
namespace L2
open PySem PySem.Spec PyProof.Rows
structure RoomH (k:Nat)(A:Around):Prop where
 dp:A.depth+3*k+5<recursionLimit
 un:A.units+16*k+200<cLine
abbrev Around.calm0 (A:Around):Around:={A with handled:=none}
theorem Room.hand {k:Nat}{A:Around}(r:Room k A)(v:Option Value):RoomH k (A.mark v):=⟨r.dp,r.un⟩
theorem RoomH.mono {j k:Nat}{A:Around}(r:RoomH k A)(h:j≤k):RoomH j A:=⟨by have:=r.dp;omega,by have:=r.un;omega⟩
theorem RoomH.off {k:Nat}{A:Around}(r:RoomH (k+1) A)(env:Env):Room k ((Around.calm0 A).deeper env) :=
 ⟨rfl,by have:=r.dp;show A.depth+1+3*k+5<_;omega,by have:=r.un;show A.units+3+16*k+200<_;omega⟩
structure FnOkH (P:Program)(w:World)(K:PySem.W.Frag)(mg:Str→Option Value)(base:Heap)(k:Nat)(f:Addr)(fd:FuncData)(ps:List Str)(sp:Sp):Prop where
 len:∀vs H Q E,sp vs H Q E→vs.length=ps.length
 run:∀(A:Around) (outer:List Env) (s:Shared) (H:Hp) (args:Args) (us:List Value) (vs:List V) (Q:VK),RoomH k A→Env0 P w K mg base A outer s H→BindsTo s fd args (ps.zip us)→Vals vs us→sp vs H Q E0 →
  codeAny (model P w) A (.call (.ref f) args) (CR CX0 outer P w H s Q E0) s
abbrev zg7 (P:Program)(w:World)(K:PySem.W.Frag)(mg:Str→Option Value)(base:Heap)(N:List Str)(qual:Str)(scope:Scope)(f:Addr)(cd:Value)(A:Around)(outer:List Env)(s:Shared)(H:Hp):Cx :=
 { (zas CX0 P w K mg base N qual scope f cd A outer s H E0) with calm:=false,xe:=fun _ _=>False}
theorem zlc {P:Program}{w:World}{K:PySem.W.Frag}{mg:Str→Option Value}{base:Heap}{k:Nat}{f:Addr}{name qual:Str}{params:Arguments}{body:List Stmt}{scope:Scope}{dV kV doc pm cdv ct oc:Value}{an od:Option Addr}
  {osl:Array (Option Value)}{N ps:List Str}{sp:Sp} (lk:K.lookup f=some ⟨oc,od,.func (PySem.W.fnOf name qual params body scope dV kV doc pm an cdv ct),osl⟩) (hcd:PySem.W.codeIn K cdv qual=true) (S:FnScope N ps scope)
  (len:∀vs H Q E,sp vs H Q E→vs.length=ps.length)
  (hbody:∀(A:Around) (outer:List Env) (s:Shared) (H:Hp) (vs:List V) (Q:VK),Room k ((Around.calm0 A).deeper (envOfC qual scope s.heap.objs.size f cdv))→sp vs H Q E0 →
   ∃t,PSs (zg7 P w K mg base N qual scope f cdv A outer s H) body t∧t {nx:=fun _ H'=>Q .non H',rt:=Q} (start N vs) H) :
  FnOkH P w K mg base (k+1) f (PySem.W.fnOf name qual params body scope dV kV doc pm an cdv ct) ps sp:=by
 refine⟨len,fun A outer s H args us vs Q hr e0 hb r hsp=>?_⟩
 have hl:=len _ _ _ _ hsp
 have KX:K.In s.heap:=e0.mod.kin.keeps fun b o e=>(e0.bs b o e).1
 have lim:s.heap.NoLimit:=e0.mod.nolimit.keeps fun b o e=>(e0.bs b o e).1
 have hkind:∀y∈ps.zip us,scope.names.lookup y.1=some .local∨(scope.names.lookup y.1=some .cell∧((cellsFrom (s.heap.objs.size+1) scope.names []).lookup y.1).isSome=true):=fun⟨n,v⟩ hy=>by
  rcases S.par n (List.of_mem_zip hy).1 with q|q
  ·exact .inl q
  ·exact .inr ⟨q,PySem.W.cellsFrom_some _ _ _ (.inl q)⟩
 have hdp:A.depth<recursionLimit:=by have:=hr.dp;omega
 refine codeAny_call_function hdp (KX _ _ lk) rfl S.co S.gen rfl (PySem.W.codeRec_of KX hcd) (hb _ _ _ _ ?_)
 refine wpAny_newFunctionEnv_cells S.kind hkind fun env he s1 x=>?_
 subst he
 refine⟨lim.keeps x.toInCall.keep,codeAny_func ?_⟩
 obtain⟨t,ht,hq⟩:=hbody A outer s H vs Q (hr.off _) hsp
 have e0':Env0 P w K mg base (Around.calm0 A) outer s H:=⟨e0.frames,e0.mod,e0.bs,e0.bsz,e0.funs,e0.frf,e0.hok,e0.bare⟩
 have I0:Inv (zas CX0 P w K mg base N qual scope f cdv (Around.calm0 A) outer s H E0) [] (start N vs) H s1:=zcZ S rfl e0' hl r x
 have ok:=I0.ok
 have I:Inv (zg7 P w K mg base N qual scope f cdv A outer s H) [] (start N vs) H s1 :=
  ⟨⟨ok.mod,ok.kind,ok.glob,ok.blt,ok.above,ok.inj,ok.has,ok.cab,fun z=>(by cases z),ok.frames,ok.stk,ok.exf,ok.bs,ok.bsz,ok.noex,ok.exfs,ok.funs,ok.frf⟩,I0.os,I0.bare,I0.base,I0.loc,I0.cell,I0.free,I0.freeC,I0.pin,I0.hok,I0.len⟩
 refine wpAny_mono (ht [] s1 (start N vs) H _ I hq) (fun fl s' hs=>?_) fun e s' hs=>False.elim hs
 have fin:∀{σ':St}{H':Hp}{v:V}{u:Value},Inv (zg7 P w K mg base N qual scope f cdv A outer s H) [] σ' H' s'→RelV v u→Q v H'→CE outer P w H s Q u s' :=
  fun {σ' H' v u} J rv q=>⟨v,H',J.os,J.bare,J.base,J.hok,rv,q⟩
 cases fl with
 | ret u =>
  obtain⟨v,σ',H',J,rv,q⟩:=hs
  exact fin J rv q
 | next =>
  obtain⟨σ',H',J,q⟩:=hs
  exact fin (v:=V.non) (u:=Value.none) J rfl q
 | brk =>
  obtain⟨_,_,_,q⟩:=hs
  exact False.elim q
 | cont =>
  obtain⟨_,_,_,q⟩:=hs
  exact False.elim q
theorem Fun.okH {P:Program}{w:World}{K:PySem.W.Frag}{mg:Str→Option Value}{base:Heap}{x qual:Str}{st:Stmt}{f:Addr}{fd:FuncData}{N ps:List Str}{k:Nat}{sp:Sp}(F:Fun K x qual st f fd)(S:FnScope N ps (zj st))(len:∀vs H Q E,sp vs H Q E→vs.length=ps.length)
  (hbody:∀(cdv:Value) (A:Around) (outer:List Env) (s:Shared) (H:Hp) (vs:List V) (Q:VK),Room k ((Around.calm0 A).deeper (envOfC qual (zj st) s.heap.objs.size f cdv))→sp vs H Q E0 →
   ∃t,PSs (zg7 P w K mg base N qual (zj st) f cdv A outer s H) (zG st) t∧t {nx:=fun _ H'=>Q .non H',rt:=Q} (start N vs) H):FnOkH P w K mg base (k+1) f fd ps sp:=by
 obtain⟨oc,od,kV,doc,pm,an,cdv,ct,osl,rfl,lk,hcd⟩:=F.ex
 exact zlc lk hcd S len fun A outer s H vs Q hr hsp=>hbody cdv A outer s H vs Q hr hsp
section
variable {X:Cx}{k:Nat}{f:Addr}{fd:FuncData}{ps:List Str}{sp:Sp}{x:Str}{p pos:Pos}{e:Expr}{es:List Expr}{t:TA}
theorem zh6 (F:FnOkH X.prog X.w X.K X.mg X.base k f fd ps sp)(hr:RoomH k X.A)(hg:Gl X x)(hm:X.mg x=some (.ref f))(hk:PySem.W.keepIn X.K (.ref f)=true)(hb:Binds X.K fd ps [])(ha:PA X (e::es) t)
  (hdb:(x == ("__debug__" : Str))=false:=by decide) (he:starEach (e::es) X.env=(false,eval e X.env)::starEach es X.env:=by rfl) (hpl:(backTo pos (starEach es X.env)).any (·.1)=false:=by rfl) :
  PE X (.Call (.Name x p) (e::es) [] pos) (zlH sp [] E0 t):=by
 intro pins s σ H Q I h
 refine wpAny_Call_Name_kw (zab I hg hm ?_ hdb)
 refine PySem.W.callWith_K (h₀:=X.base) I.ok.mod.kin hk (thn (ha pos pins s σ H _ I h) fun us s1 ⟨vs,H1,I1,r,q⟩=>⟨I1.kIn,?_⟩) he hpl
 have q:sp vs H1 Q E0:=by
  have q':sp (vs++[]) H1 Q E0:=q
  rw[List.append_nil] at q'
  exact q'
 have hl:us.length=ps.length:=by rw[← r.length];exact F.len _ _ _ _ q
 have hb':=hb s1 us I1.kIn (by rw[List.append_nil];exact hl)
 rw[List.append_nil] at hb'
 refine wpAny_call (codeAny_mono (F.run X.A X.stack s1 H1 ⟨us,[]⟩ us vs Q hr I1.env0 hb' r q) fun r s' hq=>?_)
 cases r with
 | error e=>exact False.elim hq
 | ok fl =>
  cases fl with
  | ret u=>exact I1.after hq
  | next=>exact False.elim hq
  | brk=>exact False.elim hq
  | cont=>exact False.elim hq
end
end L2
namespace L2
open PySem PySem.Spec PyProof.Rows
theorem zbi:bootBuiltins "ValueError" = some (.type "ValueError"):=PyProof.Rows.Boot.«ValueError»
theorem qT {P:Program}{w:World}{X:Cx}:zcY (CX1 P w) X E0:=fun _ _ _ _ _ _ _ h=>by
 obtain⟨_,_,_,_,_,_,_,_,_,_,_,_,_,_,_,_,hE⟩:=h
 exact hE.elim
theorem zdh {x:V}:∀{xs:List V}{us:List Value},Vals xs us→xs.all uD=true→us.countP (eqU x)=xs.countP fun y=>eqV y x
 | _,_,.nil,_=>rfl
 | y::xs,u::us,.cons r t,f=>by
  rw[List.all_cons,Bool.and_eq_true] at f
  rw[List.countP_cons,List.countP_cons,zex r f.1,zdh t f.2]
theorem zdA {x:V}:∀{xs:List V}{us:List Value},Vals xs us→xs.all uD=true→∀(j:Nat) (u:Value),us[j]? = some u→∃y,xs[j]? = some y∧eqU x u=eqV y x
 | _,_,.nil,_=>fun j u e=>by simp at e
 | y::xs,u::us,.cons r t,f=>fun j v e=>by
  rw[List.all_cons,Bool.and_eq_true] at f
  cases j with
  | zero =>
   have:u=v:=by simpa using e
   subst this
   exact⟨y,rfl,zex r f.1⟩
  | succ j=>exact zdA t f.2 j v (by simpa using e)
end L2
namespace L2
open PySem PySem.Spec PyProof.Rows
end L2
namespace My
end My
namespace L2
open PySem PySem.Spec PyProof.Rows
theorem zaJ {a:List Expr}{b}{c:Pos}{es:List Expr}{env:Env}:starEach (.Tuple a b c::es) env=(false,eval (.Tuple a b c) env)::starEach es env:=by rfl
theorem wL {a b:Expr}{o}{c:Pos}{es:List Expr}{env:Env}:starEach (.BinOp a o b c::es) env=(false,eval (.BinOp a o b c) env)::starEach es env:=by rfl
theorem zN {f:Expr}{a:List Expr}{k}{c:Pos}{es:List Expr}{env:Env}:starEach (.Call f a k c::es) env=(false,eval (.Call f a k c) env)::starEach es env:=by rfl
theorem v8 {a b:Expr}{c:Pos}{es:List Expr}{env:Env}:starEach (.Subscript a b c::es) env=(false,eval (.Subscript a b c) env)::starEach es env:=by rfl
theorem za {a}{c:Pos}{es:List Expr}{env:Env}:starEach (.Name a c::es) env=(false,eval (.Name a c) env)::starEach es env:=by rfl
theorem zgR {o}{a:Expr}{c:Pos}{es:List Expr}{env:Env}:starEach (.UnaryOp o a c::es) env=(false,eval (.UnaryOp o a c) env)::starEach es env:=by rfl
theorem zm {a}{k}{c:Pos}{es:List Expr}{env:Env}:starEach (.Constant a k c::es) env=(false,eval (.Constant a k c) env)::starEach es env:=by rfl
section
variable {prog:Program}{w:World}{A:Around}{E:Value→Shared→Prop}{s:Shared}
theorem jj {t sl:Addr}{items:Array Value}{vl vu:Value}{lo hi:Option Int}{Q:Value→Shared→Prop}(ht:IsTup s.heap t items)(hs:s.heap.IsSliceOf sl vl vu .none)(pl:IsPart vl lo)(pu:IsPart vu hi)
  (hw:HT.sIx items.size 0 lo=0∧HT.sIx items.size items.size hi=items.size) (h:Q (.ref t) s):wpAny (model prog w) A (getItem (.ref t) (.ref sl)) Q E s:=by
 obtain⟨os,hos,hcs,hds⟩:=id hs
 have hTs:s.TypeIs (.ref sl) "slice" := ⟨os,hos,hcs⟩
 unfold getItem
 try with_reducible refine wpAny_holding ?_
 first|refine wpAny_bind (wpAny_pure ?_)|skip
 refine wpAny_bind (wpAny_sequenceKey ht.typeIs (by decide) ?_)
 refine wpAny_bind (wpAny_callSpecial?_slot (name:=Str.ofString "__getitem__") ht.typeIs PyProof.Rows.slot_tuple_getitem
  (wpAny_call_entry PyProof.Rows.slot_tuple_getitem ht.typeIs entry_tuple_getitem ?_ (args_tuple_getitem _ _)))
 show wpAny _ _ (Builtin.Tuple.tupleItemsOf (.ref t) >>= _) _ _ s
 refine wpAny_bind (tupleItemsOf_ ht ?_)
 refine wpAny_bind (wpAny_typeOf hTs ?_)
 rw[if_pos (by decide)]
 refine wpAny_bind (HT.sliceApplied_gen hs pl pu ?_)
 have hyes:(((HT.sIx items.size 0 lo:Nat):Int) == 0&&(1:Int) == 1&&(HT.sIx items.size items.size hi - HT.sIx items.size 0 lo) == items.size)=true:=by
  rw[hw.1,hw.2]
  simp
 show wpAny _ _ (if (((HT.sIx items.size 0 lo:Nat):Int) == 0&&(1:Int) == 1&&(HT.sIx items.size items.size hi - HT.sIx items.size 0 lo) == items.size)=true then _ else _) _ _ s
 rw[if_pos hyes]
 refine wpAny_bind (m:=Builtin.Tuple.tupleIsExact (.ref t)) ?_
 unfold Builtin.Tuple.tupleIsExact
 refine wpAny_bind (wpAny_typeOf ht.typeIs (wpAny_pure ?_))
 rw[if_pos (by decide)]
 first
  | exact wpAny_bind (wpAny_rule (wpAny_pure ⟨_,rfl,wpAny_pure h⟩))
  | exact wpAny_bind (wpAny_rule (wpAny_pure ⟨_,rfl,h⟩))
end
section
variable {X:Cx}
def znf (K:PySem.W.Frag):V→Option Int→Option Int→Hp→VK→Prop:=fun x lo hi H Q=>∃a xs,x=.ref a∧SqT K H a xs∧∀p H',Same H H'→SqT K H' p (zge xs lo hi)→Q (.ref p) H'
theorem zjR:SlR X (znf X.K):=by
 intro pins s σ H x v vl vu lo hi sl Q I rx hs pl pu h
 obtain⟨a,xs,rfl,hx,q⟩:=h
 by_cases hw:HT.sIx xs.length 0 lo=0∧HT.sIx xs.length xs.length hi=xs.length
 ·cases rx
  obtain⟨its,r,ht,hz⟩:=I.tuple hx
  have hlen:its.toArray.size=xs.length:=by rw[List.size_toArray];exact r.length.symm
  refine⟨"tuple", _,PyProof.Rows.slot_tuple_getitem.lookup,ht.typeIs,jj ht hs pl pu (by rw[hlen];exact hw) ⟨.ref a,H,I,rfl,q a H (Same.refl _) ?_⟩⟩
  have:zge xs lo hi=xs:=by
   unfold zge
   rw[hw.1,hw.2,List.drop_zero,Nat.sub_zero,List.take_length]
  rw[this]
  exact hx
 ·exact zkL pins s σ H (.ref a) v vl vu lo hi sl Q I rx hs pl pu ⟨a,xs,rfl,hx,hw,fun p hp=>q p _ (Same.upd hp) (SqT.of yg)⟩
end
end L2
namespace L2
open PySem PySem.Spec PyProof.Rows
end L2
set_option maxHeartbeats 2000000
namespace L2
open PySem PySem.Spec PyProof.Rows
section
variable {X:Cx}{pins:List (Addr×Obj)}{σ:St}{H:Hp}{s:Shared}{a:Addr}{xs:List V}
theorem ziC (I:Inv X pins σ H s)(h:SqL X.K H a xs∨SqT X.K H a xs):∃(its:List Value) (o:Obj) (G:Heap→Prop),Vals xs its∧xs.length≤sizeLine∧o.isFreed=false∧Zp.Itb a o G∧G s.heap ∧
  (∀h h':Heap,(∀u,h.get? a=some u→h'.get? a=some u)→G h→G h')∧(∃u,s.heap.get? a=some u) ∧
  ∀it,a≠it→∃S:Nat→Heap→Prop,Zp.Src X.prog X.w it a its.length (fun i=>its.toArray.getD i .none) S∧∀h:Heap,h.get? it=some o→G h→S 0 h:=by
 rcases h with h|h
 ·obtain⟨its,rv,pl,hz⟩:=I.list h
  have pl':s.heap.IsList a its.toArray:=pl.isList
  refine⟨its,Zp.lIter a,fun h=>h.IsList a its.toArray,rv,hz,rfl,Zp.itb_lst a _,pl',fun h h' k ⟨o,e,r⟩=>⟨o,k _ e,r⟩,?_,fun it hne=>⟨_,Zp.src_lst (xs:=its.toArray) hne,fun h e g=>⟨⟨_,e,rfl,rfl⟩,g⟩⟩⟩
  obtain⟨o,e,_⟩:=pl'
  exact⟨o,e⟩
 ·obtain⟨its,rv,pl,hz⟩:=I.tuple h
  have pl':s.heap.IsTuple a its.toArray:=pl
  refine⟨its,Zp.tIter a,fun h=>h.IsTuple a its.toArray,rv,hz,rfl,Zp.itb_tup a _,pl',fun h h' k ⟨o,e,r⟩=>⟨o,k _ e,r⟩,?_,fun it hne=>⟨_,Zp.src_tup (xs:=its.toArray) hne,fun h e g=>⟨⟨_,e,rfl,rfl⟩,g⟩⟩⟩
  obtain⟨o,e,_⟩:=pl'
  exact⟨o,e⟩
end
def zku (ls:List (List Nat))(xs:List V):List (Key×V):=(List.range (min ls.length xs.length)).foldl (fun m j=>putK m (Sum.inr (T (ls.getD j []))) (xs.getD j .non)) []
theorem zhQ (ls:List (List Nat))(xs:List V):(zku ls xs).length≤ls.length:=by
 have key:∀(ps:List Nat) (m:List (Key×V)),(ps.foldl (fun m j=>putK m (Sum.inr (T (ls.getD j []))) (xs.getD j .non)) m).length≤m.length+ps.length:=by
  intro ps
  induction ps with
  | nil=>intro m;simp
  | cons p r ih =>
   intro m
   rw[List.foldl_cons]
   have h1:=ih (putK m (Sum.inr (T (ls.getD p []))) (xs.getD p .non))
   have h2:=zdN m (Sum.inr (T (ls.getD p [])):Key) (xs.getD p .non)
   rw[List.length_cons]
   omega
 have:=key (List.range (min ls.length xs.length)) []
 rw[List.length_range,List.length_nil] at this
 exact Nat.le_trans this (by omega)
theorem zc3 {xs:List V}{us:List Value}(r:Vals xs us){j:Nat}(hj:j<us.length):RelV (xs.getD j .non) (us.toArray.getD j .none):=by
 induction r generalizing j with
 | nil=>simp at hj
 | cons p t ih =>
  cases j with
  | zero=>simpa using p
  | succ j =>
   have:=ih (j:=j) (by simpa using hj)
   rename_i _ _ l1 l2
   have hj':j<l2.length:=by simpa using hj
   simpa [Array.getD,hj'] using this
theorem zeP {ls:List (List Nat)}{xs:List V}{us:List Value}(r:Vals xs us):∀(js:List Nat) {m:List (Key×V)}{ms:List (Key×Value)},(∀j∈js,j<us.length)→KV m ms →
  KV (js.foldl (fun m j=>putK m (Sum.inr (T (ls.getD j []))) (xs.getD j .non)) m) (js.foldl (fun m j=>stored m (Sum.inr (T (ls.getD j [])):Key) (us.toArray.getD j .none)) ms)
 | [],_,_,_,k=>k
 | j::js,_,_,h,k=>by
  rw[List.foldl_cons,List.foldl_cons]
  exact zeP r js (fun i hi=>h i (.tail _ hi)) (k.put _ (zc3 r (h j (.head _))))
def zld (K:PySem.W.Frag)(ta tb:TE):TE:=fun σ H Q=>jC ta (jC tb zjg) σ H fun vs H2=>∃(ls:List (List Nat)) (a b:Addr) (xs:List V),vs=[.ref a,.ref b]∧(SqL K H2 a (vT ls)∨SqT K H2 a (vT ls))∧(SqL K H2 b xs∨SqT K H2 b xs)∧ls.length≤1000∧∀p,H2 p=none→Q (.ref p) (upd H2 p (.dK (zku ls xs)))
section
variable {X:Cx}
theorem zdW {a b:Expr}{ta tb:TE}{p1 p2 pos1 pos2:Pos}(hc:X.calm=true)(ha:PE X a ta)(hb:PE X b tb)(hd:Gl X "dict")(hz:Gl X "zip")(md:X.mg "dict" = none)(mz:X.mg "zip" = none)
  (hs:starEach [a,b] X.env=[(false,eval a X.env),(false,eval b X.env)]:=by rfl) (hs2:starEach [b] X.env=[(false,eval b X.env)]:=by rfl)
  (hs3:starEach [.Call (.Name "zip" p2) [a,b] [] pos2] X.env=[(false,eval (.Call (.Name "zip" p2) [a,b] [] pos2) X.env)]:=by rfl) :
  PE X (.Call (.Name "dict" p1) [.Call (.Name "zip" p2) [a,b] [] pos2] [] pos1) (zld X.K ta tb):=by
 intro pins s σ H Q I h
 refine wpAny_Call_Name_kw (zaj I hd md boot_dict ?_)
 refine PyProof.Rows.callWith_type1 ?_ hs3 rfl
 rw[hs3]
 show wpAny _ _ (spliced ((false,eval (.Call (.Name "zip" p2) [a,b] [] pos2) X.env)::backTo pos1 [])) _ _ s
 refine Calls.spliced_cons ?_
 have hA:PA X [a,b] (jC ta (jC tb zjg)):=wA ha (wA hb uX hs2) (by rw[hs,hs2])
 refine wpAny_Call_Name_kw (zaj I hz mz boot_zip ?_)
 refine PyProof.Rows.callWith_type1 (thn (hA pos2 pins s σ H _ I h) fun us s1 hq37=>?_) (by rw[hs,hs2]) (by rw[hs2];rfl)
 obtain⟨vs,H2,I2,r2,ls,A1,B1,xs,ev,hq,hq2,hl,q⟩:=hq37
 subst ev
 obtain⟨u1,u2,rfl,ru1,ru2⟩:=vals2 r2
 cases ru1
 cases ru2
 obtain⟨its1,o1,G1,rv1,hz1,fr1,it1,g1,mv1,⟨w1,e1⟩,sr1⟩:=ziC I2 hq
 obtain⟨its2,o2,G2,rv2,hz2,fr2,it2,g2,mv2,⟨w2,e2⟩,sr2⟩:=ziC I2 hq2
 refine Zp.call_zipG fr1 fr2 it1 it2 (fun h g=>mv2 _ _ (fun u e=>Heap.get?_push_of_some _ e) g) g1 g2 fun h1 m5=>?_
 refine Calls.spliced_nil ?_
 obtain⟨m1,m2,m3,m4,m6,m7,m8⟩:=m5
 have lt:∀{c:Addr}{o:Obj},s1.heap.get? c=some o→c<s1.heap.objs.size:=fun e=>Heap.lt_size e
 have hA1:=lt e1
 have hB1:=lt e2
 obtain⟨S1,C1,z1⟩:=sr1 s1.heap.objs.size (yt (.inl hA1))
 obtain⟨S2,C2,z2⟩:=sr2 (s1.heap.objs.size+1) (yt (.inl (Nat.lt_of_lt_of_le hB1 (by omega))))
 have el1:ls.length=its1.length:=by have:=rv1.length;unfold vT at this;rw[List.length_map] at this;exact this
 have el2:xs.length=its2.length:=rv2.length
 refine Zp.call_dict_zipG (knd:=ux X.prog X.w) (s:={s1 with heap:=h1}) (z:=s1.heap.objs.size+4) (TI:=s1.heap.objs.size+2) (TO:=s1.heap.objs.size+3) (i1:=s1.heap.objs.size) (i2:=s1.heap.objs.size+1) (p1:=A1) (p2:=B1)
  (I.ok.hd hc) ⟨yt (by omega),yt (by omega),yt (by omega),yt (by omega),yt (by omega),yt (by omega),yt (by omega),yt (by omega),yt (by omega),yt (by omega)⟩
  (yt (.inl (Nat.lt_of_lt_of_le hA1 (by omega)))) (yt (.inl (Nat.lt_of_lt_of_le hA1 (by omega)))) (yt (.inl (Nat.lt_of_lt_of_le hA1 (by omega))))
  (yt (.inl (Nat.lt_of_lt_of_le hB1 (by omega)))) (yt (.inl (Nat.lt_of_lt_of_le hB1 (by omega)))) (yt (.inl hB1)) C1 C2 (fun j=>Sum.inr (T (ls.getD j []))) (fun j hj=>?_) (by omega)
  m1 m2 m3 (z1 _ m4 (mv1 _ _ (fun u e=>m8 _ _ e) g1)) (z2 _ m6 (mv2 _ _ (fun u e=>m8 _ _ e) g2)) fun h2 tk hdict keep=>?_
 ·have hj1:j<its1.length:=by omega
  have r:=zc3 rv1 hj1
  have er:(vT ls).getD j .non=.str (T (ls.getD j [])):=by
   unfold vT
   simp[List.getD,el1,hj1]
  rw[er] at r
  obtain⟨t,e⟩:=r
  rw[e]
  exact zaS _ _ _ t
 have keep1:∀b o,s1.heap.get? b=some o→h2.get? b=some o:=fun b o e=>by
  have hb:=lt e
  exact keep b o (yt (.inl (Nat.lt_of_lt_of_le hb (by omega)))) (yt (.inl (Nat.lt_of_lt_of_le hb (by omega)))) (yt (.inl hb)) (yt (.inl (Nat.lt_of_lt_of_le hb (by omega)))) (m8 b o e)
 have hp:s1.heap.objs.size≤h1.objs.size:=by rw[m7];omega
 have hnone:H2 h1.objs.size=none:=I2.hok.fresh hp
 refine⟨.ref h1.objs.size,upd H2 h1.objs.size (.dK (zku ls xs)),I2.laid (h':=h2) (t':=tk) keep1 hp ?_,rfl,q _ hnone⟩
 refine⟨?_,?_,_,?_,hdict⟩
 ·have:=zhQ ls xs
  rw[sizeLine_eq];omega
 ·have hbig:=I2.big
  exact beq_eq_false_iff_ne.mpr (by have:=hbig;intro z;rw[z] at hp;exact absurd (Nat.lt_of_lt_of_le hbig hp) (Nat.lt_irrefl _))
 ·unfold zku
  rw[el1,el2]
  exact zeP rv2 _ (fun j hj=>by have:=List.mem_range.mp hj;omega) zkY
end
end L2
namespace L2
open PySem PySem.Spec PyProof.Rows
theorem zcl (l:Addr)(items:Array Value)(x:Value)(e:Value→Bool)(j:Nat)(hj:j<items.size)
  (hit:e items[j]=true) (hno:∀m (hm:m<items.size),m<j→e items[m]=false) :
  Meets (Builtin.«tuple.index» ⟨[.ref l,x],[]⟩)
   (fun A R s=>s.heap.IsTuple l items∧(∀y,y∈items→SeqAt.EqAt A.in1 s y x (e y))∧R (.ok (.ret (.int j s.toks))) {s with toks:=s.toks+1}):=by
 intro prog w A R s h
 obtain⟨hl,he,h⟩:=h
 obtain⟨o,ho,hc,n,hd⟩:=id hl
 unfold Builtin.«tuple.index»
 refine wpAny_bind ?_
 wp_walk using wpAny_loadPart' ho
 rw[hd]
 refine wpAny_pure (wpAny_pure ?_)
 refine wpAny_bind (wpAny_pure (wpAny_bind (wpAny_pure (wpAny_bind ?_))))
 rw[Std.Legacy.Range.forIn_eq_forIn_range']
 simp only[Std.Legacy.Range.size,Nat.sub_zero,Nat.add_sub_cancel,Nat.div_one,Nat.min_self]
 refine wpAny_forIn_list _ (fun rest b s'=>s'=s∧∃i,rest=List.range' i (items.size - i)∧i≤j) _ ?_ ?_ _ _ ⟨rfl,0,by simp,Nat.zero_le _⟩
 ·rintro y rest b s' ⟨rfl,i,hr,hi⟩
  obtain ⟨rfl,hrest⟩:y=i∧rest=List.range' (i+1) (items.size - (i+1)):=by
   have e:items.size - i=(items.size - (i+1))+1:=by omega
   rw[e,List.range'_succ] at hr
   injection hr with h1 h2
   exact⟨h1,h2⟩
  have hlt:y<items.size:=by omega
  rw[Array.getElem?_eq_getElem hlt]
  refine wpAny_bind (he _ (Array.getElem_mem hlt) prog w _ _ ?_)
  rcases Nat.lt_or_ge y j with hyj|hyj
  ·rw[hno y hlt hyj]
   exact wpAny_pure ⟨rfl,y+1,hrest,hyj⟩
  ·have:y=j:=by omega
   subst this
   rw[hit]
   rw[if_pos rfl]
   wp_walk
   exact h
 ·rintro b s' ⟨rfl,i,hr,hi⟩
  have:items.size - i=0:=by
   have:=congrArg List.length hr
   simpa using this.symm
  omega
section
variable {X:Cx}
def zi4 (K:PySem.W.Frag):V→List V→Hp→VK→Prop:=fun x vs H Q=>∃(l:Addr) (xs:List V) (y:V) (j:Nat) (z:V),x=.ref l∧vs=[y]∧SqT K H l xs∧uD y=true∧xs.all uD=true∧xs[j]? = some z∧eqV z y=true∧(∀(m:Nat) (w:V),m<j→xs[m]? = some w→eqV w y=false)∧Q (.int (j:Int)) H
theorem zfG:MtR X "tuple.index" (zi4 X.K):=by
 intro pins s σ H x vs v us Q I rx rv h
 obtain⟨l,xs,y,j,z0,rfl,rfl,hH,fy,fs,hj,hz,hno,q⟩:=h
 cases rx
 obtain⟨u,rfl,ru⟩:=rv.one
 obtain⟨its,r,pl,hl⟩:=I.tuple hH
 obtain⟨o,e,hc,n,hd⟩:=id pl
 have hjl:j<its.length:=by rw[← r.length];exact(List.getElem?_eq_some_iff.mp hj).1
 refine call_meets F.slot_tuple_index ⟨_,e,hc⟩ F.entry_tuple_index (F.args_tuple_index_2 _ _) (zcl l its.toArray u (eqU y) j (by simpa using hjl) ?_ ?_) ⟨⟨o,e,hc,n,hd⟩,fun w hw=>qZ ru fy r fs w (by simpa using hw),?_⟩
 ·obtain⟨y2,e2,e3⟩:=zdA (x:=y) r fs j its[j] (List.getElem?_eq_getElem hjl)
  rw[hj] at e2
  obtain rfl:=Option.some.inj e2
  show eqU y its[j]=true
  rw[e3,hz]
 ·intro m hm hmj
  have hml:m<its.length:=by simpa using hm
  obtain⟨y2,e2,e3⟩:=zdA (x:=y) r fs m its[m] (List.getElem?_eq_getElem hml)
  show eqU y its[m]=false
  rw[e3]
  exact hno m y2 hmj e2
 ·exact⟨.int _,H,I.tok _,⟨_,rfl⟩,q⟩
def zhp (K:PySem.W.Frag):V→List V→Hp→VK→Prop:=fun x vs H Q=>∃(l:Addr) (xs:List V) (y:V) (j:Nat) (z:V),x=.ref l∧vs=[y]∧SqL K H l xs∧uD y=true∧xs.all uD=true∧xs[j]? = some z∧eqV z y=true∧j<1000000∧(∀(m:Nat) (w:V),m<j→xs[m]? = some w→eqV w y=false)∧Q (.int (j:Int)) H
theorem zdz:MtR X "list.index" (zhp X.K):=by
 intro pins s σ H x vs v us Q I rx rv h
 obtain⟨l,xs,y,j,z0,rfl,rfl,hH,fy,fs,hj,hz,h1000,hno,q⟩:=h
 cases rx
 obtain⟨u,rfl,ru⟩:=rv.one
 obtain⟨its,r,pl,hl⟩:=I.list hH
 obtain⟨o,n,e,hc,hd,hs⟩:=id pl
 have hjl:j<its.length:=by rw[← r.length];exact(List.getElem?_eq_some_iff.mp hj).1
 have eo:o={cls:=.type "list", dict:=none,data:=.seq its.toArray n,slots:=o.slots}:=by
  obtain⟨c,d,dt,sl⟩:=o
  dsimp only at hc hd hs
  subst hc hd hs
  rfl
 rw[eo] at e
 refine call_meets F.slot_list_index ⟨_,e,rfl⟩ F.entry_list_index (F.args_list_index_2 _ _) (SeqAt.list_indexAt l its.toArray n none o.slots u (eqU y) j (by simpa using hjl) (by omega) ?_ ?_) ⟨e,fun w hw=>qZ ru fy r fs w (by simpa using hw),?_⟩
 ·obtain⟨y2,e2,e3⟩:=zdA (x:=y) r fs j its[j] (List.getElem?_eq_getElem hjl)
  rw[hj] at e2
  obtain rfl:=Option.some.inj e2
  show eqU y its[j]=true
  rw[e3,hz]
 ·intro m hm hmj
  have hml:m<its.length:=by simpa using hm
  obtain⟨y2,e2,e3⟩:=zdA (x:=y) r fs m its[m] (List.getElem?_eq_getElem hml)
  show eqU y its[m]=false
  rw[e3]
  exact hno m y2 hmj e2
 ·exact⟨.int _,H,I.tok _,⟨_,rfl⟩,q⟩
end
end L2
set_option maxHeartbeats 1000000
namespace L2
open PySem
def txt:Value→Str
 | .str x _=>x
 | _=>⟨#[]⟩
structure StS (w:World)(es:Array (Int×Value))(t:SetTable)(ks:List Str):Prop where
 shape:∀e∈es.toList,∃x tk,e=(hashStr w x,Value.str x tk)
 keys:(es.toList.map fun e=>txt e.2).Perm ks
 nd:ks.Nodup
 fits:t.fits es.size=true
 led:t.led = !w.params.followText "set-order"
 plain:es.size=0∨t.plain=false
 few:es.size<scanBound
theorem StS.size {w:World}{es:Array (Int×Value)}{t:SetTable}{ks:List Str}(S:StS w es t ks):es.size=ks.length:=by
 have:=S.keys.length_eq
 simpa using this
theorem isStrOf_txt {x y:Str}{tk:Tok}:Value.isStrOf x (.str y tk)=true↔x=y:=by
 constructor
 ·intro h
  obtain⟨t,e⟩:=Value.isStrOf_shape h
  injection e with e _
  exact e.symm
 ·rintro rfl;simp[Value.isStrOf,Value.isStr]
theorem StS.find {w:World}{es:Array (Int×Value)}{t:SetTable}{ks:List Str}(S:StS w es t ks)(x:Str):(∃e∈es.toList,Value.isStrOf x e.2=true)↔x∈ks:=by
 rw[← S.keys.mem_iff,List.mem_map]
 constructor
 ·rintro⟨e,he,h⟩
  obtain⟨y,tk,rfl⟩:=S.shape e he
  exact⟨_,he,(isStrOf_txt.mp h).symm⟩
 ·rintro⟨e,he,h⟩
  obtain⟨y,tk,rfl⟩:=S.shape e he
  exact⟨_,he,isStrOf_txt.mpr h.symm⟩
end L2
namespace L2
open PySem
end L2
namespace L2
open PySem
end L2
namespace L2
open PySem
end L2
set_option maxHeartbeats 3200000
namespace L2
open PySem PySem.Spec PyProof.Rows
section
variable {prog:Program}{w:World}{A:Around}{E:Value→Shared→Prop}{s:Shared}
theorem StS.new:StS w #[] (.fresh 0 0 (!w.params.followText "set-order")) [] where
 shape:=fun e he=>by simp at he
 keys:=List.Perm.refl _
 nd:=List.nodup_nil
 fits:=rfl
 led:=rfl
 plain:=.inl rfl
 few:=by decide
end
end L2
namespace L2
open PySem PySem.Spec PyProof.Rows
end L2
set_option maxHeartbeats 1000000
namespace L2
open PySem PySem.Spec PyProof.Rows
end L2
namespace L2
open PySem PySem.Spec PyProof.Rows
inductive D where
 | non|bl (b:Bool)|int (i:Int)|str (l:List Nat)|lst (xs:List D)|tup (xs:List D)|dct (kvs:List (List Nat×D))|exc (n:Nat)
inductive Rs (α:Type) where
 | ok (a:α)|ex (n:Nat)|no
def Rs.bind {α β:Type}:Rs α→(α→Rs β)→Rs β
 | .ok a,f=>f a
 | .ex n,_=>.ex n
 | .no,_=>.no
inductive Sl where
 | no|fz (d:D)|ow (xs:List D)|od (kvs:List (List Nat×D))
abbrev Rho:=List Sl
inductive Out where
 | nx (ρ:Rho)|rt (d:D)|bk (ρ:Rho)|ct (ρ:Rho)|ex (n:Nat)|no
mutual
inductive Dt (K:PySem.W.Frag)(cl:Nat→Addr)(F:Hp):V→D→Prop
 | non:Dt K cl F .non .non
 | bl (b:Bool):Dt K cl F (.bl b) (.bl b)
 | int (i:Int):Dt K cl F (.int i) (.int i)
 | str (l:List Nat) (ok:TxtOk (T l)):Dt K cl F (.str (T l)) (.str l)
 | lst {a:Addr}{xs:List V}{ds:List D}:SqL K F a xs→Dts K cl F xs ds→Dt K cl F (.ref a) (.lst ds)
 | tup {a:Addr}{xs:List V}{ds:List D}:SqT K F a xs→Dts K cl F xs ds→Dt K cl F (.ref a) (.tup ds)
 | dct {a:Addr}{kvs:List (Key×V)}{ds:List (List Nat×D)}:F a=some (.dK kvs)→Dks K cl F kvs ds→Dt K cl F (.ref a) (.dct ds)
 | exc {a:Addr}{n:Nat}:F a=some (excAt a (cl n))→Dt K cl F (.ref a) (.exc n)
inductive Dts (K:PySem.W.Frag)(cl:Nat→Addr)(F:Hp):List V→List D→Prop
 | nil:Dts K cl F [] []
 | cons {v:V}{d:D}{vs:List V}{ds:List D}:Dt K cl F v d→Dts K cl F vs ds→Dts K cl F (v::vs) (d::ds)
inductive Dks (K:PySem.W.Frag)(cl:Nat→Addr)(F:Hp):List (Key×V)→List (List Nat×D)→Prop
 | nil:Dks K cl F [] []
 | cons {l:List Nat}{v:V}{d:D}{vs:List (Key×V)}{ds:List (List Nat×D)}:TxtOk (T l)→Dt K cl F v d→Dks K cl F vs ds→Dks K cl F ((Sum.inr (T l),v)::vs) ((l,d)::ds)
end
section
variable {K:PySem.W.Frag}{cl:Nat→Addr}{F F' H H':Hp}
theorem Dt.monos (e:Same F F'):(∀{v:V}{d:D},Dt K cl F v d→Dt K cl F' v d)∧(∀{vs:List V}{ds:List D},Dts K cl F vs ds→Dts K cl F' vs ds)∧(∀{vs:List (Key×V)}{ds:List (List Nat×D)},Dks K cl F vs ds→Dks K cl F' vs ds):=by
 refine⟨fun {v d} h=>?_,fun {vs ds} h=>?_,fun {vs ds} h=>?_⟩
 ·exact Dt.rec (motive_1:=fun v d _=>Dt K cl F' v d) (motive_2:=fun vs ds _=>Dts K cl F' vs ds) (motive_3:=fun vs ds _=>Dks K cl F' vs ds) .non .bl .int .str (fun q _ ih=>.lst (e.seq q) ih) (fun q _ ih=>.tup (e.seqT q) ih) (fun q _ ih=>.dct (e _ _ q) ih) (fun q=>.exc (e _ _ q)) .nil (fun _ _ a b=>.cons a b) .nil (fun ok _ _ a b=>.cons ok a b) h
 ·exact Dts.rec (motive_1:=fun v d _=>Dt K cl F' v d) (motive_2:=fun vs ds _=>Dts K cl F' vs ds) (motive_3:=fun vs ds _=>Dks K cl F' vs ds) .non .bl .int .str (fun q _ ih=>.lst (e.seq q) ih) (fun q _ ih=>.tup (e.seqT q) ih) (fun q _ ih=>.dct (e _ _ q) ih) (fun q=>.exc (e _ _ q)) .nil (fun _ _ a b=>.cons a b) .nil (fun ok _ _ a b=>.cons ok a b) h
 ·exact Dks.rec (motive_1:=fun v d _=>Dt K cl F' v d) (motive_2:=fun vs ds _=>Dts K cl F' vs ds) (motive_3:=fun vs ds _=>Dks K cl F' vs ds) .non .bl .int .str (fun q _ ih=>.lst (e.seq q) ih) (fun q _ ih=>.tup (e.seqT q) ih) (fun q _ ih=>.dct (e _ _ q) ih) (fun q=>.exc (e _ _ q)) .nil (fun _ _ a b=>.cons a b) .nil (fun ok _ _ a b=>.cons ok a b) h
theorem Dt.mono {v:V}{d:D}(h:Dt K cl F v d)(e:Same F F'):Dt K cl F' v d:=(Dt.monos e).1 h
theorem Dts.mono {vs:List V}{ds:List D}(h:Dts K cl F vs ds)(e:Same F F'):Dts K cl F' vs ds:=(Dt.monos e).2.1 h
theorem Dks.mono {vs:List (Key×V)}{ds:List (List Nat×D)}(h:Dks K cl F vs ds)(e:Same F F'):Dks K cl F' vs ds:=(Dt.monos e).2.2 h
theorem Dts.length:∀{vs:List V}{ds:List D},Dts K cl F vs ds→vs.length=ds.length
 | _,_,.nil=>rfl
 | _,_,.cons _ r=>by simp[r.length]
theorem Dts.append:∀{vs ws:List V}{ds es:List D},Dts K cl F vs ds→Dts K cl F ws es→Dts K cl F (vs++ws) (ds++es)
 | _,_,_,_,.nil,s=>s
 | _,_,_,_,.cons r t,s=>.cons r (Dts.append t s)
theorem Dts.get:∀{vs:List V}{ds:List D}{i:Nat}{v:V},Dts K cl F vs ds→vs[i]? = some v→∃d,ds[i]? = some d∧Dt K cl F v d
 | _,_,_,_,.nil,e=>by simp at e
 | _,_,0,_,.cons r _,e=>by simp at e;subst e;exact⟨_,rfl,r⟩
 | _,_,i+1,v,.cons _ t,e=>by
  obtain⟨d,h1,h2⟩:=Dts.get (i:=i) (v:=v) t (by simpa using e)
  exact⟨d,by simpa using h1,h2⟩
theorem Dts.get':∀{vs:List V}{ds:List D}{i:Nat}{d:D},Dts K cl F vs ds→ds[i]? = some d→∃v,vs[i]? = some v∧Dt K cl F v d
 | _,_,_,_,.nil,e=>by simp at e
 | _,_,0,_,.cons r _,e=>by simp at e;subst e;exact⟨_,rfl,r⟩
 | _,_,i+1,d,.cons _ t,e=>by
  obtain⟨v,h1,h2⟩:=Dts.get' (i:=i) (d:=d) t (by simpa using e)
  exact⟨v,by simpa using h1,h2⟩
theorem Dts.take:∀{vs:List V}{ds:List D} (n:Nat),Dts K cl F vs ds→Dts K cl F (vs.take n) (ds.take n)
 | _,_,0,_=>.nil
 | _,_,_+1,.nil=>.nil
 | _,_,n+1,.cons r t=>.cons r (Dts.take n t)
theorem Dts.drop:∀{vs:List V}{ds:List D} (n:Nat),Dts K cl F vs ds→Dts K cl F (vs.drop n) (ds.drop n)
 | _,_,0,r=>r
 | _,_,_+1,.nil=>.nil
 | _,_,n+1,.cons _ t=>Dts.drop n t
mutual
def D.py:D→PyData
 | .non=>.none
 | .bl b=>.bool b
 | .int i=>.int i
 | .str l=>.str (T l)
 | .lst xs=>.list (D.pys xs)
 | .tup xs=>.tuple (D.pys xs)
 | .dct _=>.none
 | .exc _=>.none
def D.pys:List D→List PyData
 | []=>[]
 | d::ds=>d.py::D.pys ds
end
mutual
def D.pl:D→Bool
 | .lst xs=>D.pls xs
 | .tup xs=>D.pls xs
 | .dct _=>false
 | .exc _=>false
 | _=>true
def D.pls:List D→Bool
 | []=>true
 | d::ds=>d.pl&&D.pls ds
end
theorem Dt.iss:(∀{v:V}{d:D},Dt K cl F v d→d.pl=true→Is K F v d.py)∧(∀{vs:List V}{ds:List D},Dts K cl F vs ds→D.pls ds=true→Iss K F vs (D.pys ds)):=by
 refine⟨fun {v d} h=>?_,fun {vs ds} h=>?_⟩
 ·exact Dt.rec (motive_1:=fun v d _=>d.pl=true→Is K F v d.py) (motive_2:=fun vs ds _=>D.pls ds=true→Iss K F vs (D.pys ds)) (motive_3:=fun _ _ _=>True) (fun _=>.non) (fun b _=>.bl b) (fun i _=>.int i) (fun l ok _=>.str _ ok) (fun q _ ih p=>.lst q (ih p)) (fun q _ ih p=>.tup q (ih p)) (fun _ _ _ p=>by simp[D.pl] at p) (fun _ p=>by simp[D.pl] at p) (fun _=>.nil)
   (fun _ _ a b p=>by simp only[D.pls,Bool.and_eq_true] at p;exact .cons (a p.1) (b p.2)) trivial (fun _ _ _ _ _=>trivial) h
 ·exact Dts.rec (motive_1:=fun v d _=>d.pl=true→Is K F v d.py) (motive_2:=fun vs ds _=>D.pls ds=true→Iss K F vs (D.pys ds)) (motive_3:=fun _ _ _=>True) (fun _=>.non) (fun b _=>.bl b) (fun i _=>.int i) (fun l ok _=>.str _ ok) (fun q _ ih p=>.lst q (ih p)) (fun q _ ih p=>.tup q (ih p)) (fun _ _ _ p=>by simp[D.pl] at p) (fun _ p=>by simp[D.pl] at p) (fun _=>.nil)
   (fun _ _ a b p=>by simp only[D.pls,Bool.and_eq_true] at p;exact .cons (a p.1) (b p.2)) trivial (fun _ _ _ _ _=>trivial) h
theorem Dt.is {v:V}{d:D}(h:Dt K cl F v d)(p:d.pl=true):Is K F v d.py:=Dt.iss.1 h p
def HO.mu:HO→Bool
 | .tup _=>false
 | .frz _ _=>false
 | _=>true
structure Gr (F H F' H':Hp):Prop where
 ff:Same F F'
 hh:Same H H'
 fh:Same F' H'
 no:∀b o,H b=some o→o.mu=true→F b=none→F' b=none
theorem Gr.refl (h:Same F H):Gr F H F H:=⟨Same.refl _,Same.refl _,h,fun _ _ _ _ q=>q⟩
theorem Gr.trans {F1 H1 F2 H2 F3 H3:Hp}(a:Gr F1 H1 F2 H2)(b:Gr F2 H2 F3 H3):Gr F1 H1 F3 H3 :=
 ⟨a.ff.trans b.ff,a.hh.trans b.hh,b.fh,fun c o hc m q=>b.no c o (a.hh c o hc) m (a.no c o hc m q)⟩
theorem zek {H1 H2:Hp}{p:Addr}{o:HO}(h:Same H1 H2):Same (upd H1 p o) (upd H2 p o):=fun b u e=>by
 by_cases hb:b=p
 ·subst hb;rw[yg] at e ⊢;exact e
 ·rw[zU hb] at e ⊢;exact h b u e
theorem Gr.new {p:Addr}{o:HO}(h:Same F H)(hp:H p=none):Gr F H (upd F p o) (upd H p o) :=
 ⟨Same.upd (h.free hp),Same.upd hp,zek h,fun b o hb m q=>by
  have hne:b≠p:=fun z=>by rw[z,hp] at hb;cases hb
  rw[zU hne];exact q⟩
theorem Gr.newO {p:Addr}{o:HO}(h:Same F H)(hp:H p=none):Gr F H F (upd H p o) :=
 ⟨Same.refl _,Same.upd hp,h.trans (Same.upd hp),fun _ _ _ _ q=>q⟩
def Sl.own:Sl→Bool
 | .ow _=>true
 | .od _=>true
 | _=>false
theorem Gr.tup {K:PySem.W.Frag}{cl:Nat→Addr}{p:Addr}{vs:List V}{ds:List D}(h:Same F H)(s:Same H H')(q:SqT K H' p vs)(d:Dts K cl F vs ds):∃F',Gr F H F' H'∧Dt K cl F' (.ref p) (.tup ds):=by
 have s2:Same F H':=h.trans s
 have add:∀o:HO,H' p=some o→o.mu=false→Gr F H (fun b=>if b=p then H' b else F b) H'∧Same F (fun b=>if b=p then H' b else F b):=fun o e m=>by
  have ff:Same F (fun b=>if b=p then H' b else F b):=fun b u e'=>by
   show(if b=p then H' b else F b)=some u
   split
   ·exact s2 b u e'
   ·exact e'
  refine⟨⟨ff,s,fun b u e'=>?_,fun b u hb m' q'=>?_⟩,ff⟩
  ·have e2:(if b=p then H' b else F b)=some u:=e'
   split at e2
   ·exact e2
   ·exact s2 b u e2
  ·show (if b=p then H' b else F b)=none
   split
   ·rename_i w
    subst w
    rw[s b u hb] at e
    injection e with e
    rw[e,m] at m'
    cases m'
   ·exact q'
 rcases q with(e|⟨u,e⟩)|q
 ·obtain⟨g,ff⟩:=add _ e rfl
  exact⟨_,g,.tup (.inl (.inl (by show(if p=p then H' p else F p)=_;rw[if_pos rfl];exact e))) (d.mono ff)⟩
 ·obtain⟨g,ff⟩:=add _ e rfl
  exact⟨_,g,.tup (.inl (.inr ⟨u,by show(if p=p then H' p else F p)=_;rw[if_pos rfl];exact e⟩)) (d.mono ff)⟩
 ·exact⟨F,⟨Same.refl _,s,s2,fun _ _ _ _ z=>z⟩,.tup (.inr q) d⟩
structure Rl (K:PySem.W.Frag)(cl:Nat→Addr)(H0 F0:Hp)(ρ:Rho)(σ:St)(H F:Hp):Prop where
 gr:Gr F0 H0 F H
 len:ρ.length=σ.length
 fz:∀(i:Nat) d,ρ[i]? = some (.fz d)→∃v,σ[i]? = some (some v)∧Dt K cl F v d
 ow:∀(i:Nat) ds,ρ[i]? = some (.ow ds)→∃a vs,σ[i]? = some (some (.ref a))∧H a=some (.lst vs)∧F a=none∧H0 a=none∧Dts K cl F vs ds
 od:∀(i:Nat) ds,ρ[i]? = some (.od ds)→∃a vs,σ[i]? = some (some (.ref a))∧H a=some (.dK vs)∧F a=none∧H0 a=none∧Dks K cl F vs ds
 ap:∀(i j:Nat) s t a,ρ[i]? = some s→ρ[j]? = some t→s.own=true→t.own=true→σ[i]? = some (some (.ref a))→σ[j]? = some (some (.ref a))→i=j
theorem Rl.grow {H0 F0:Hp}{ρ:Rho}{σ:St}(R:Rl K cl H0 F0 ρ σ H F)(g:Gr F H F' H'):Rl K cl H0 F0 ρ σ H' F' where
 gr:=R.gr.trans g
 len:=R.len
 fz:=fun i d e=>let ⟨v,h1,h2⟩:=R.fz i d e;⟨v,h1,h2.mono g.ff⟩
 ow:=fun i d e=>let ⟨a,vs,h1,h2,h3,h4,h5⟩:=R.ow i d e;⟨a,vs,h1,g.hh _ _ h2,g.no a _ h2 rfl h3,h4,h5.mono g.ff⟩
 od:=fun i d e=>let ⟨a,vs,h1,h2,h3,h4,h5⟩:=R.od i d e;⟨a,vs,h1,g.hh _ _ h2,g.no a _ h2 rfl h3,h4,h5.mono g.ff⟩
 ap:=R.ap
theorem Rl.fh {H0 F0:Hp}{ρ:Rho}{σ:St}(R:Rl K cl H0 F0 ρ σ H F):Same F H:=R.gr.fh
theorem get_set {α:Type}{l:List α}{i j:Nat}{x y:α}(h:(l.set i x)[j]? = some y):(i=j∧y=x∧i<l.length)∨(i≠j∧l[j]? = some y):=by
 by_cases e:i=j
 ·subst e
  rw[List.getElem?_set_self'] at h
  cases q:l[i]? with
  | none=>rw[q] at h;cases h
  | some z =>
   rw[q] at h
   exact .inl ⟨rfl,(Option.some.inj h).symm,(List.getElem?_eq_some_iff.mp q).1⟩
 ·rw[List.getElem?_set_ne e] at h
  exact .inr ⟨e,h⟩
theorem zck {α:Type}{l:List α}{i:Nat}{x:α}(h:i<l.length):(l.set i x)[i]? = some x:=by rw[List.getElem?_set_self h]
theorem Rl.set {H0 F0:Hp}{ρ:Rho}{σ:St}{i:Nat}{v:V}{d:D}(R:Rl K cl H0 F0 ρ σ H F)(h:Dt K cl F v d):Rl K cl H0 F0 (ρ.set i (.fz d)) (σ.set i (some v)) H F where
 gr:=R.gr
 len:=by simp[R.len]
 fz := fun j e z=>by
  rcases get_set z with⟨rfl,q,hl⟩|⟨hj,q⟩
  ·injection q with q;subst q
   exact⟨v,zck (R.len▸hl),h⟩
  ·rw[List.getElem?_set_ne hj];exact R.fz j e q
 ow:=fun j e z=>by
  rcases get_set z with⟨rfl,q,hl⟩|⟨hj,q⟩
  ·cases q
  ·rw[List.getElem?_set_ne hj];exact R.ow j e q
 od:=fun j e z=>by
  rcases get_set z with⟨rfl,q,hl⟩|⟨hj,q⟩
  ·cases q
  ·rw[List.getElem?_set_ne hj];exact R.od j e q
 ap := fun j k s t a z1 z2 o1 o2 e1 e2=>by
  rcases get_set z1 with⟨rfl,q,hl⟩|⟨hj,q⟩
  ·subst q;cases o1
  ·rcases get_set z2 with⟨rfl,q2,hl⟩|⟨hk,q2⟩
   ·subst q2;cases o2
   ·rw[List.getElem?_set_ne hj] at e1;rw[List.getElem?_set_ne hk] at e2
    exact R.ap j k s t a q q2 o1 o2 e1 e2
theorem Rl.apart {H0 F0:Hp}{ρ:Rho}{σ:St}(R:Rl K cl H0 F0 ρ σ H F){j:Nat}{s:Sl}{a:Addr}(e:ρ[j]? = some s)(o:s.own=true)(z:σ[j]? = some (some (.ref a))):H a≠none:=by
 cases s with
 | ow ds =>
  obtain⟨b,vs,h1,h2,_⟩:=R.ow j ds e
  rw[z] at h1
  injection h1 with h1;injection h1 with h1;injection h1 with h1
  rw[h1,h2];exact fun z=>nomatch z
 | od ds =>
  obtain⟨b,vs,h1,h2,_⟩:=R.od j ds e
  rw[z] at h1
  injection h1 with h1;injection h1 with h1;injection h1 with h1
  rw[h1,h2];exact fun z=>nomatch z
 | _=>cases o
theorem Rl.setO {H0 F0:Hp}{ρ:Rho}{σ:St}{i:Nat}{p:Addr}{vs:List V}{ds:List D}(R:Rl K cl H0 F0 ρ σ H F)(hp:H p=none)(h:Dts K cl F vs ds):Rl K cl H0 F0 (ρ.set i (.ow ds)) (σ.set i (some (.ref p))) (upd H p (.lst vs)) F where
 gr:=R.gr.trans (Gr.newO R.fh hp)
 len:=by simp[R.len]
 fz:=fun j e z=>by
  rcases get_set z with⟨rfl,q,hl⟩|⟨hj,q⟩
  ·cases q
  ·rw[List.getElem?_set_ne hj];exact R.fz j e q
 ow := fun j e z=>by
  rcases get_set z with⟨rfl,q,hl⟩|⟨hj,q⟩
  ·injection q with q;subst q
   exact⟨p,vs,zck (R.len▸hl),yg,R.fh.free hp,R.gr.hh.free hp,h⟩
  ·rw[List.getElem?_set_ne hj]
   obtain⟨a,us,h1,h2,h3⟩:=R.ow j e q
   exact⟨a,us,h1,by rw[zU (fun w=>by rw[w,hp] at h2;cases h2)];exact h2,h3⟩
 od := fun j e z=>by
  rcases get_set z with⟨rfl,q,hl⟩|⟨hj,q⟩
  ·cases q
  ·rw[List.getElem?_set_ne hj]
   obtain⟨a,us,h1,h2,h3⟩:=R.od j e q
   exact⟨a,us,h1,by rw[zU (fun w=>by rw[w,hp] at h2;cases h2)];exact h2,h3⟩
 ap := fun j k s t a z1 z2 o1 o2 e1 e2=>by
  rcases get_set z1 with⟨rfl,q,hl⟩|⟨hj,q⟩
  ·rcases get_set z2 with⟨rfl,q2,hl2⟩|⟨hk,q2⟩
   ·rfl
   ·rw[zck (R.len▸hl)] at e1;rw[List.getElem?_set_ne hk] at e2
    injection e1 with e1;injection e1 with e1;injection e1 with e1
    exact absurd (e1▸hp) (R.apart q2 o2 e2)
  ·rcases get_set z2 with⟨rfl,q2,hl2⟩|⟨hk,q2⟩
   ·rw[zck (R.len▸hl2)] at e2;rw[List.getElem?_set_ne hj] at e1
    injection e2 with e2;injection e2 with e2;injection e2 with e2
    exact absurd (e2▸hp) (R.apart q o1 e1)
   ·rw[List.getElem?_set_ne hj] at e1;rw[List.getElem?_set_ne hk] at e2
    exact R.ap j k s t a q q2 o1 o2 e1 e2
theorem Rl.put {H0 F0:Hp}{ρ:Rho}{σ:St}{i:Nat}{a:Addr}{us:List V}{ds es:List D}(R:Rl K cl H0 F0 ρ σ H F)(hi:ρ[i]? = some (.ow ds))(hs:σ[i]? = some (some (.ref a)))(h:Dts K cl F us es):Rl K cl H0 F0 (ρ.set i (.ow es)) σ (upd H a (.lst us)) F:=by
 obtain⟨b,ws,h1,h2,h3,h4,_⟩:=R.ow i ds hi
 rw[hs] at h1
 injection h1 with h1;injection h1 with h1;injection h1 with h1
 subst h1
 have far:∀(j:Nat) (s:Sl) (c:Addr),j≠i→ρ[j]? = some s→s.own=true→σ[j]? = some (some (.ref c))→c≠a:=fun j s c hj e o z w=>hj (R.ap j i s _ a e hi o rfl (w▸z) hs)
 refine⟨⟨R.gr.ff,fun c o e=>?_,fun c o e=>?_,R.gr.no⟩,by simp[R.len],fun j e z=>?_,fun j e z=>?_,fun j e z=>?_,fun j k s t c z1 z2 o1 o2 e1 e2=>?_⟩
 ·rw[zU (fun w=>by rw[w,h4] at e;cases e)];exact R.gr.hh c o e
 ·rw[zU (fun w=>by rw[w,h3] at e;cases e)];exact R.fh c o e
 ·rcases get_set z with⟨rfl,q,hl⟩|⟨hj,q⟩
  ·cases q
  ·exact R.fz j e q
 ·rcases get_set z with⟨rfl,q,hl⟩|⟨hj,q⟩
  ·injection q with q;subst q
   exact⟨a,us,hs,yg,h3,h4,h⟩
  ·obtain⟨c,xs,k1,k2,k3⟩:=R.ow j e q
   exact⟨c,xs,k1,by rw[zU (far j _ c (Ne.symm hj) q rfl k1)];exact k2,k3⟩
 ·rcases get_set z with⟨rfl,q,hl⟩|⟨hj,q⟩
  ·cases q
  ·obtain⟨c,xs,k1,k2,k3⟩:=R.od j e q
   exact⟨c,xs,k1,by rw[zU (far j _ c (Ne.symm hj) q rfl k1)];exact k2,k3⟩
 ·have own:∀(j:Nat) (s:Sl),(ρ.set i (.ow es))[j]? = some s→s.own=true→∃s',ρ[j]? = some s'∧s'.own=true:=fun j s z o=>by
   rcases get_set z with⟨rfl,q,hl⟩|⟨hj,q⟩
   ·exact⟨_,hi,rfl⟩
   ·exact⟨s,q,o⟩
  obtain⟨s',q1,p1⟩:=own j s z1 o1
  obtain⟨t',q2,p2⟩:=own k t z2 o2
  exact R.ap j k s' t' c q1 q2 p1 p2 e1 e2
theorem Rl.ice {H0 F0:Hp}{ρ:Rho}{σ:St}{i:Nat}{ds:List D}(R:Rl K cl H0 F0 ρ σ H F)(hi:ρ[i]? = some (.ow ds)):∃F',Same F F'∧Rl K cl H0 F0 (ρ.set i (.fz (.lst ds))) σ H F':=by
 obtain⟨a,vs,h1,h2,h3,h4,h5⟩:=R.ow i ds hi
 have sm:Same F (upd F a (.lst vs)):=Same.upd h3
 have far:∀(j:Nat) (s:Sl) (c:Addr),j≠i→ρ[j]? = some s→s.own=true→σ[j]? = some (some (.ref c))→c≠a:=fun j s c hj e o z w=>hj (R.ap j i s _ a e hi o rfl (w▸z) h1)
 refine⟨upd F a (.lst vs),sm,⟨⟨R.gr.ff.trans sm,R.gr.hh,fun c o e=>?_,fun c o hc m q=>?_⟩,by simp[R.len],fun j e z=>?_,fun j e z=>?_,fun j e z=>?_,fun j k s t c z1 z2 o1 o2 e1 e2=>?_⟩⟩
 ·by_cases w:c=a
  ·subst w;rw[yg] at e;rw[← e];exact h2
  ·rw[zU w] at e;exact R.fh c o e
 ·have hne:c≠a:=fun w=>by rw[w,h4] at hc;cases hc
  rw[zU hne];exact R.gr.no c o hc m q
 ·rcases get_set z with⟨rfl,q,hl⟩|⟨hj,q⟩
  ·injection q with q;subst q
   exact⟨.ref a,h1,.lst (.inl (.inl yg)) (h5.mono sm)⟩
  ·obtain⟨v,k1,k2⟩:=R.fz j e q
   exact⟨v,k1,k2.mono sm⟩
 ·rcases get_set z with⟨rfl,q,hl⟩|⟨hj,q⟩
  ·cases q
  ·obtain⟨c,xs,k1,k2,k3,k4,k5⟩:=R.ow j e q
   exact⟨c,xs,k1,k2,by rw[zU (far j _ c (Ne.symm hj) q rfl k1)];exact k3,k4,k5.mono sm⟩
 ·rcases get_set z with⟨rfl,q,hl⟩|⟨hj,q⟩
  ·cases q
  ·obtain⟨c,xs,k1,k2,k3,k4,k5⟩:=R.od j e q
   exact⟨c,xs,k1,k2,by rw[zU (far j _ c (Ne.symm hj) q rfl k1)];exact k3,k4,k5.mono sm⟩
 ·rcases get_set z1 with⟨rfl,q,hl⟩|⟨hj,q⟩
  ·subst q;cases o1
  ·rcases get_set z2 with⟨rfl,q2,hl⟩|⟨hk,q2⟩
   ·subst q2;cases o2
   ·exact R.ap j k s t c q q2 o1 o2 e1 e2
end
end L2
namespace L2
open PySem PySem.Spec PyProof.Rows
def OutE (K:PySem.W.Frag)(cl:Nat→Addr)(E:XK)(H0 F H:Hp)(r:Rs D)(Q:VK):Prop :=
 match r with
 | .ok d=>∀v H' F',Gr F H F' H'→Dt K cl F' v d→Q v H'
 | .ex n=>∀H',Same H0 H'→E (.ref (cl n)) none H'
 | .no=>False
def OutA (K:PySem.W.Frag)(cl:Nat→Addr)(E:XK)(H0 F H:Hp)(r:Rs (List D))(Q:List V→Hp→Prop):Prop :=
 match r with
 | .ok ds=>∀vs H' F',Gr F H F' H'→Dts K cl F' vs ds→Q vs H'
 | .ex n=>∀H',Same H0 H'→E (.ref (cl n)) none H'
 | .no=>False
def OutB (K:PySem.W.Frag)(cl:Nat→Addr)(E:XK)(H0 F H:Hp)(r:Rs Bool)(Q:Bool→Hp→Prop):Prop :=
 match r with
 | .ok b=>∀H' F',Gr F H F' H'→Q b H'
 | .ex n=>∀H',Same H0 H'→E (.ref (cl n)) none H'
 | .no=>False
def OutS (K:PySem.W.Frag)(cl:Nat→Addr)(E:XK)(H0 F0 F:Hp)(o:Out)(Dn:Ends):Prop :=
 match o with
 | .nx ρ=>∀σ H F',Rl K cl H0 F0 ρ σ H F'→Same F F'→Dn.nx σ H
 | .rt d=>∀v H F',Gr F0 H0 F' H→Dt K cl F' v d→Dn.rt v H
 | .bk ρ=>∀σ H F',Rl K cl H0 F0 ρ σ H F'→Same F F'→Dn.bk σ H
 | .ct ρ=>∀σ H F',Rl K cl H0 F0 ρ σ H F'→Same F F'→Dn.ct σ H
 | .ex n=>∀H',Same H0 H'→E (.ref (cl n)) none H'
 | .no=>False
def XE' (X:Cx)(cl:Nat→Addr)(E:XK)(e:Expr)(f:Rho→Rs D):Prop :=
 ∃t:TE,PE X e t∧∀(H0 F0:Hp) (ρ:Rho) (σ:St) (H F:Hp) (Q:VK),Rl X.K cl H0 F0 ρ σ H F→OutE X.K cl E H0 F H (f ρ) Q→t σ H Q
def XA' (X:Cx)(cl:Nat→Addr)(E:XK)(es:List Expr)(f:Rho→Rs (List D)):Prop :=
 ∃t:TA,PA X es t∧∀(H0 F0:Hp) (ρ:Rho) (σ:St) (H F:Hp) (Q:List V→Hp→Prop),Rl X.K cl H0 F0 ρ σ H F→OutA X.K cl E H0 F H (f ρ) Q→t σ H Q
def XT' (X:Cx)(cl:Nat→Addr)(E:XK)(e:Expr)(f:Rho→Rs Bool):Prop :=
 ∃t:TT,PT X e t∧∀(H0 F0:Hp) (ρ:Rho) (σ:St) (H F:Hp) (Q:Bool→Hp→Prop),Rl X.K cl H0 F0 ρ σ H F→OutB X.K cl E H0 F H (f ρ) Q→t σ H Q
def XW' (X:Cx)(cl:Nat→Addr)(E:XK)(e:Expr)(f:Rho→Rs Bool):Prop :=
 ∃t:TT,PW X e t∧∀(H0 F0:Hp) (ρ:Rho) (σ:St) (H F:Hp) (Q:Bool→Hp→Prop),Rl X.K cl H0 F0 ρ σ H F→OutB X.K cl E H0 F H (f ρ) Q→t σ H Q
def XO' (X:Cx)(cl:Nat→Addr)(E:XK)(e:Option Expr)(f:Rho→Rs (Option Int)):Prop :=
 ∃ t:TO,PO X e t∧∀(H0 F0:Hp) (ρ:Rho) (σ:St) (H F:Hp) (Q:Option Int→Hp→Prop),Rl X.K cl H0 F0 ρ σ H F →
  (match f ρ with | .ok o=>∀H' F',Gr F H F' H'→Q o H' | .ex n=>∀H',Same H0 H'→E (.ref (cl n)) none H' | .no=>False)→t σ H Q
def tDE (K:PySem.W.Frag)(cl:Nat→Addr)(E:XK)(f:Rho→Rs D):TE:=fun σ H Q=>∃H0 F0 ρ F,Rl K cl H0 F0 ρ σ H F∧OutE K cl E H0 F H (f ρ) Q
def tDA (K:PySem.W.Frag)(cl:Nat→Addr)(E:XK)(f:Rho→Rs (List D)):TA:=fun σ H Q=>∃H0 F0 ρ F,Rl K cl H0 F0 ρ σ H F∧OutA K cl E H0 F H (f ρ) Q
def tDB (K:PySem.W.Frag)(cl:Nat→Addr)(E:XK)(f:Rho→Rs Bool):TT:=fun σ H Q=>∃H0 F0 ρ F,Rl K cl H0 F0 ρ σ H F∧OutB K cl E H0 F H (f ρ) Q
def XE (X:Cx)(cl:Nat→Addr)(E:XK)(e:Expr)(f:Rho→Rs D):Prop:=PE X e (tDE X.K cl E f)
def XA (X:Cx)(cl:Nat→Addr)(E:XK)(es:List Expr)(f:Rho→Rs (List D)):Prop:=PA X es (tDA X.K cl E f)
def XT (X:Cx)(cl:Nat→Addr)(E:XK)(e:Expr)(f:Rho→Rs Bool):Prop:=PT X e (tDB X.K cl E f)
def XW (X:Cx)(cl:Nat→Addr)(E:XK)(e:Expr)(f:Rho→Rs Bool):Prop:=PW X e (tDB X.K cl E f)
section
variable {X:Cx}{cl:Nat→Addr}{E:XK}
theorem XE.ex {e:Expr}{f:Rho→Rs D}(h:XE X cl E e f):XE' X cl E e f:=⟨_,h,fun H0 F0 ρ σ H F Q R o=>⟨H0,F0,ρ,F,R,o⟩⟩
theorem XA.ex {e:List Expr}{f:Rho→Rs (List D)}(h:XA X cl E e f):XA' X cl E e f:=⟨_,h,fun H0 F0 ρ σ H F Q R o=>⟨H0,F0,ρ,F,R,o⟩⟩
theorem XT.ex {e:Expr}{f:Rho→Rs Bool}(h:XT X cl E e f):XT' X cl E e f:=⟨_,h,fun H0 F0 ρ σ H F Q R o=>⟨H0,F0,ρ,F,R,o⟩⟩
theorem XW.ex {e:Expr}{f:Rho→Rs Bool}(h:XW X cl E e f):XW' X cl E e f:=⟨_,h,fun H0 F0 ρ σ H F Q R o=>⟨H0,F0,ρ,F,R,o⟩⟩
theorem XE'.out {e:Expr}{f:Rho→Rs D}(h:XE' X cl E e f):XE X cl E e f:=let ⟨_,pt,rt⟩:=h;fun pins s σ H Q I ⟨H0,F0,ρ,F,R,o⟩=>pt pins s σ H Q I (rt H0 F0 ρ σ H F Q R o)
theorem XA'.out {e:List Expr}{f:Rho→Rs (List D)}(h:XA' X cl E e f):XA X cl E e f:=let ⟨_,pt,rt⟩:=h;fun pos pins s σ H Q I ⟨H0,F0,ρ,F,R,o⟩=>pt pos pins s σ H Q I (rt H0 F0 ρ σ H F Q R o)
theorem XT'.out {e:Expr}{f:Rho→Rs Bool}(h:XT' X cl E e f):XT X cl E e f:=let ⟨_,pt,rt⟩:=h;fun pins s σ H Q I ⟨H0,F0,ρ,F,R,o⟩=>pt pins s σ H Q I (rt H0 F0 ρ σ H F Q R o)
theorem XW'.out {e:Expr}{f:Rho→Rs Bool}(h:XW' X cl E e f):XW X cl E e f:=let ⟨_,pt,rt⟩:=h;fun whole pins s σ H Q I ⟨H0,F0,ρ,F,R,o⟩=>pt whole pins s σ H Q I (rt H0 F0 ρ σ H F Q R o)
end
def fC (d:D):Rho→Rs D:=fun _=>.ok d
def fNm (i:Nat):Rho→Rs D:=fun ρ=>match ρ[i]? with|some (.fz d)=>.ok d|_=>.no
def lf:Option D→Rs D
 | some d=>.ok d
 | none=>.no
def f1 (g:D→Option D)(fa:Rho→Rs D):Rho→Rs D:=fun ρ=>(fa ρ).bind fun a=>lf (g a)
def f2 (g:D→D→Option D)(fa fb:Rho→Rs D):Rho→Rs D:=fun ρ=>(fa ρ).bind fun a=>(fb ρ).bind fun b=>lf (g a b)
def zA:Rho→Rs (List D):=fun _=>.ok []
def zb (fa:Rho→Rs D)(fs:Rho→Rs (List D)):Rho→Rs (List D):=fun ρ=>(fa ρ).bind fun a=>(fs ρ).bind fun as=>.ok (a::as)
def fO (g:List D→Option D)(fs:Rho→Rs (List D)):Rho→Rs D:=fun ρ=>(fs ρ).bind fun as=>lf (g as)
def fA (g:List D→Rs D)(fs:Rho→Rs (List D)):Rho→Rs D:=fun ρ=>(fs ρ).bind g
def fIf (ft:Rho→Rs Bool)(fa fb:Rho→Rs D):Rho→Rs D:=fun ρ=>(ft ρ).bind fun b=>if b=true then fa ρ else fb ρ
def tru:D→Rs Bool
 | .bl b=>.ok b
 | _=>.no
def bT (fa:Rho→Rs D):Rho→Rs Bool:=fun ρ=>(fa ρ).bind tru
def zaG (ft:Rho→Rs Bool):Rho→Rs Bool:=fun ρ=>(ft ρ).bind fun b=>.ok (!b)
def zfx (fa fb:Rho→Rs Bool):Rho→Rs Bool:=fun ρ=>(fa ρ).bind fun b=>if b=true then fb ρ else .ok false
def bOr (fa fb:Rho→Rs Bool):Rho→Rs Bool:=fun ρ=>(fa ρ).bind fun b=>if b=true then .ok true else fb ρ
def zbw (fa fb:Rho→Rs D):Rho→Rs D:=fun ρ=>(fa ρ).bind fun a=>(tru a).bind fun b=>if b=true then fb ρ else .ok (.bl false)
def fOr (fa fb:Rho→Rs D):Rho→Rs D:=fun ρ=>(fa ρ).bind fun a=>(tru a).bind fun b=>if b=true then .ok (.bl true) else fb ρ
def zdO (fa:Rho→Rs D):Rho→Rs D:=fun ρ=>(fa ρ).bind fun a=>(tru a).bind fun b=>.ok (.bl (!b))
section
variable {K:PySem.W.Frag}{cl:Nat→Addr}{E:XK}{H0 F0 F H F1 H1:Hp}{ρ:Rho}{σ:St}
theorem OutE.grow {r:Rs D}{Q:VK}(h:OutE K cl E H0 F H r Q)(g:Gr F H F1 H1):OutE K cl E H0 F1 H1 r Q:=by
 cases r with
 | ok d=>exact fun v H' F' g' q=>h v H' F' (g.trans g') q
 | ex n=>exact h
 | no=>exact h
theorem OutA.grow {r:Rs (List D)}{Q:List V→Hp→Prop}(h:OutA K cl E H0 F H r Q)(g:Gr F H F1 H1):OutA K cl E H0 F1 H1 r Q:=by
 cases r with
 | ok d=>exact fun v H' F' g' q=>h v H' F' (g.trans g') q
 | ex n=>exact h
 | no=>exact h
theorem OutB.grow {r:Rs Bool}{Q:Bool→Hp→Prop}(h:OutB K cl E H0 F H r Q)(g:Gr F H F1 H1):OutB K cl E H0 F1 H1 r Q:=by
 cases r with
 | ok d=>exact fun H' F' g'=>h H' F' (g.trans g')
 | ex n=>exact h
 | no=>exact h
theorem OutE.fst {r:Rs D}{g:D→Rs D}{Q P:VK}(h:OutE K cl E H0 F H (r.bind g) Q)(k:∀d v H1 F1,Gr F H F1 H1→Dt K cl F1 v d→OutE K cl E H0 F1 H1 (g d) Q→P v H1):OutE K cl E H0 F H r P:=by
 cases r with
 | ok d=>exact fun v H' F' g' q=>k d v H' F' g' q (h.grow g')
 | ex n=>exact h
 | no=>exact h
theorem OutE.fstA {r:Rs D}{g:D→Rs (List D)}{Q:List V→Hp→Prop}{P:VK}(h:OutA K cl E H0 F H (r.bind g) Q)(k:∀d v H1 F1,Gr F H F1 H1→Dt K cl F1 v d→OutA K cl E H0 F1 H1 (g d) Q→P v H1):OutE K cl E H0 F H r P:=by
 cases r with
 | ok d=>exact fun v H' F' g' q=>k d v H' F' g' q (h.grow g')
 | ex n=>exact h
 | no=>exact h
theorem OutA.fst {r:Rs (List D)}{g:List D→Rs D}{Q:VK}{P:List V→Hp→Prop}(h:OutE K cl E H0 F H (r.bind g) Q)(k:∀d v H1 F1,Gr F H F1 H1→Dts K cl F1 v d→OutE K cl E H0 F1 H1 (g d) Q→P v H1):OutA K cl E H0 F H r P:=by
 cases r with
 | ok d=>exact fun v H' F' g' q=>k d v H' F' g' q (h.grow g')
 | ex n=>exact h
 | no=>exact h
theorem OutA.fstA {r:Rs (List D)}{g:List D→Rs (List D)}{Q P:List V→Hp→Prop}(h:OutA K cl E H0 F H (r.bind g) Q)(k:∀d v H1 F1,Gr F H F1 H1→Dts K cl F1 v d→OutA K cl E H0 F1 H1 (g d) Q→P v H1):OutA K cl E H0 F H r P:=by
 cases r with
 | ok d=>exact fun v H' F' g' q=>k d v H' F' g' q (h.grow g')
 | ex n=>exact h
 | no=>exact h
theorem OutE.fstB {r:Rs D}{g:D→Rs Bool}{Q:Bool→Hp→Prop}{P:VK}(h:OutB K cl E H0 F H (r.bind g) Q)(k:∀d v H1 F1,Gr F H F1 H1→Dt K cl F1 v d→OutB K cl E H0 F1 H1 (g d) Q→P v H1):OutE K cl E H0 F H r P:=by
 cases r with
 | ok d=>exact fun v H' F' g' q=>k d v H' F' g' q (h.grow g')
 | ex n=>exact h
 | no=>exact h
theorem OutB.fst {r:Rs Bool}{g:Bool→Rs D}{Q:VK}{P:Bool→Hp→Prop}(h:OutE K cl E H0 F H (r.bind g) Q)(k:∀b H1 F1,Gr F H F1 H1→OutE K cl E H0 F1 H1 (g b) Q→P b H1):OutB K cl E H0 F H r P:=by
 cases r with
 | ok d=>exact fun H' F' g'=>k d H' F' g' (h.grow g')
 | ex n=>exact h
 | no=>exact h
theorem OutB.fstB {r:Rs Bool}{g:Bool→Rs Bool}{Q P:Bool→Hp→Prop}(h:OutB K cl E H0 F H (r.bind g) Q)(k:∀b H1 F1,Gr F H F1 H1→OutB K cl E H0 F1 H1 (g b) Q→P b H1):OutB K cl E H0 F H r P:=by
 cases r with
 | ok d=>exact fun H' F' g'=>k d H' F' g' (h.grow g')
 | ex n=>exact h
 | no=>exact h
theorem OutE.okI {d:D}{v:V}{Q:VK}(h:OutE K cl E H0 F H (.ok d) Q)(s:Same F H)(q:Dt K cl F v d):Q v H:=h v H F (Gr.refl s) q
theorem zcr {v:V}{d:D}{b:Bool}(q:Dt K cl F v d)(h:tru d=.ok b):v=.bl b:=by
 cases q <;>simp[tru] at h
 subst h;rfl
end
section
variable {X:Cx}{cl:Nat→Addr}{E:XK}{a b:Expr}{fa fb fc:Rho→Rs D}{pos:Pos}
theorem zhK {e:Expr}{v:V}{d:D}(h:PE X e (tC v))(q:∀F,Dt X.K cl F v d):XE X cl E e (fC d):=XE'.out ⟨_,h,fun H0 F0 ρ σ H F Q R o=>o.okI R.fh (q F)⟩
theorem zE {i j pos}:XE X cl E (.Constant (.int i) j pos) (fC (.int i)):=zhK zlG fun _=>.int i
theorem zad {b j pos}:XE X cl E (.Constant (.bool b) j pos) (fC (.bl b)):=zhK zmI fun _=>.bl b
theorem jG {j pos}:XE X cl E (.Constant .none j pos) (fC .non):=zhK zlK fun _=>.non
theorem yU {x:Str}{j pos}{l:List Nat}(h:x=T l)(ok:TxtOk (T l)):XE X cl E (.Constant (.str x) j pos) (fC (.str l)):=by subst h;exact zhK zl2 fun _=>.str l ok
theorem zf (i:Nat){e:Expr}(h:PE X e (zlU i)):XE X cl E e (fNm i):=XE'.out ⟨_,h,fun H0 F0 ρ σ H F Q R o=>by
 unfold fNm at o
 split at o
 ·rename_i d e
  obtain⟨v,h1,h2⟩:=R.fz i d e
  exact⟨v,h1,o.okI R.fh h2⟩
 ·exact o.elim⟩
theorem zu:XA X cl E [] zA:=XA'.out ⟨_,uX,fun H0 F0 ρ σ H F Q R o=>o [] H F (Gr.refl R.fh) .nil⟩
theorem zc {e:Expr}{es:List Expr}{fs:Rho→Rs (List D)}(ha:XE X cl E e fa)(hr:XA X cl E es fs)(hs:starEach (e::es) X.env=(false,eval e X.env)::starEach es X.env):XA X cl E (e::es) (zb fa fs):=by
 obtain⟨t,pt,rt⟩:=ha.ex
 obtain⟨u,pu,ru⟩:=hr.ex
 refine XA'.out ⟨_,wA pt pu hs,fun H0 F0 ρ σ H F Q R o=>rt H0 F0 ρ σ H F _ R (OutE.fstA o fun d v H1 F1 g q o1=>?_)⟩
 refine ru H0 F0 ρ σ H1 F1 _ (R.grow g) (OutA.fstA o1 fun ds vs H2 F2 g2 q2 o2=>?_)
 exact o2 (v::vs) H2 F2 (Gr.refl (R.grow (g.trans g2)).fh) (.cons (q.mono g2.ff) q2)
def Op2 (K:PySem.W.Frag)(cl:Nat→Addr)(r:R2)(g:D→D→Option D):Prop :=
 ∀(F H:Hp) (x y:V) (a b d:D) (Q:VK),Same F H→Dt K cl F x a→Dt K cl F y b→g a b=some d→(∀v H' F',Gr F H F' H'→Dt K cl F' v d→Q v H')→r x y H Q
theorem OutE.lf {K:PySem.W.Frag}{cl:Nat→Addr}{E:XK}{H0 F H:Hp}{o:Option D}{Q:VK}(h:OutE K cl E H0 F H (lf o) Q):∃d,o=some d∧∀v H' F',Gr F H F' H'→Dt K cl F' v d→Q v H':=by
 cases o with
 | none=>exact h.elim
 | some d=>exact⟨d,rfl,h⟩
theorem yj {op:Operator}{r:R2}{g:D→D→Option D}(ho:OpR X (binaryOp op) r)(hg:Op2 X.K cl r g)(ha:XE X cl E a fa)(hb:XE X cl E b fb):XE X cl E (.BinOp a op b pos) (f2 g fa fb):=by
 obtain⟨t,pt,rt⟩:=ha.ex
 obtain⟨u,pu,ru⟩:=hb.ex
 refine XE'.out ⟨_,zkf ho pt pu,fun H0 F0 ρ σ H F Q R o=>rt H0 F0 ρ σ H F _ R (OutE.fst o fun d v H1 F1 g1 q o1=>?_)⟩
 refine ru H0 F0 ρ σ H1 F1 _ (R.grow g1) (OutE.fst o1 fun e w H2 F2 g2 q2 o2=>?_)
 obtain⟨z,hz,k⟩:=o2.lf
 exact hg F2 H2 v w d e z _ (R.grow (g1.trans g2)).fh (q.mono g2.ff) q2 hz k
theorem zbA {op:CmpOp}{r:R2}{g:D→D→Option D}(ho:OpR X (compareOp op) r)(hg:Op2 X.K cl r g)(ha:XE X cl E a fa)(hb:XE X cl E b fb)(hm:behindInMarks op b=false):XE X cl E (.Compare a [op] [b] pos) (f2 g fa fb):=by
 obtain⟨t,pt,rt⟩:=ha.ex
 obtain⟨u,pu,ru⟩:=hb.ex
 refine XE'.out ⟨_,zjm ho pt pu hm,fun H0 F0 ρ σ H F Q R o=>rt H0 F0 ρ σ H F _ R (OutE.fst o fun d v H1 F1 g1 q o1=>?_)⟩
 refine ru H0 F0 ρ σ H1 F1 _ (R.grow g1) (OutE.fst o1 fun e w H2 F2 g2 q2 o2=>?_)
 obtain⟨z,hz,k⟩:=o2.lf
 exact hg F2 H2 v w d e z _ (R.grow (g1.trans g2)).fh (q.mono g2.ff) q2 hz k
theorem xV {op:CmpOp}{r:R2}{g:D→D→Option D}(ho:OpR X (compareOp op) r)(hg:Op2 X.K cl r g)(ha:XE X cl E a fa)(hb:XE X cl E b fb)(hm:behindInMarks op b=false):XT X cl E (.Compare a [op] [b] pos) (bT (f2 g fa fb)):=by
 obtain⟨t,pt,rt⟩:=ha.ex
 obtain⟨u,pu,ru⟩:=hb.ex
 refine XT'.out ⟨_,zkg ho pt pu hm,fun H0 F0 ρ σ H F Q R o=>?_⟩
 have o':OutE X.K cl E H0 F H (f2 g fa fb ρ) fun v H1=>∃k,v=.bl k∧Q k H1:=OutE.fstB o fun d v H1 F1 g1 q o1=>by
  cases e:tru d with
  | ok b=>rw[e] at o1;exact⟨b,zcr q e,o1 H1 F1 (Gr.refl (R.grow g1).fh)⟩
  | ex n=>cases d <;>simp[tru] at e
  | no=>rw[e] at o1;exact o1.elim
 refine rt H0 F0 ρ σ H F _ R (OutE.fst o' fun d v H1 F1 g1 q o1=>?_)
 refine ru H0 F0 ρ σ H1 F1 _ (R.grow g1) (OutE.fst o1 fun e w H2 F2 g2 q2 o2=>?_)
 obtain⟨z,hz,k⟩:=o2.lf
 exact hg F2 H2 v w d e z _ (R.grow (g1.trans g2)).fh (q.mono g2.ff) q2 hz k
theorem OutB.bT {ρ:Rho}{H0 F0 H F:Hp}{σ:St}{Q:Bool→Hp→Prop}(R:Rl X.K cl H0 F0 ρ σ H F)(o:OutB X.K cl E H0 F H (bT fa ρ) Q):OutE X.K cl E H0 F H (fa ρ) fun v H1=>∃k,v=.bl k∧Q k H1:=OutE.fstB o fun d v H1 F1 g1 q o1=>by
  cases e:tru d with
  | ok b=>rw[e] at o1;exact⟨b,zcr q e,o1 H1 F1 (Gr.refl (R.grow g1).fh)⟩
  | ex n=>cases d <;>simp[tru] at e
  | no=>rw[e] at o1;exact o1.elim
theorem jf {e:Expr}(h:XE X cl E e fa)(he:∀whole,isTrue e X.env whole=(do let v ← whole;standAt e.pos;holding [v] (truthy v)):=by intro _;rfl):XT X cl E e (bT fa):=by
 obtain⟨t,pt,rt⟩:=h.ex
 exact XT'.out ⟨_,zlo pt he,fun H0 F0 ρ σ H F Q R o=>rt H0 F0 ρ σ H F _ R (OutB.bT R o)⟩
theorem zal {ft:Rho→Rs Bool}(h:XT X cl E a ft):XT X cl E (.UnaryOp .Not a pos) (zaG ft):=by
 obtain⟨t,pt,rt⟩:=h.ex
 exact XT'.out ⟨_,zlu pt,fun H0 F0 ρ σ H F Q R o=>rt H0 F0 ρ σ H F _ R (OutB.fstB o fun b H1 F1 g o1=>o1 H1 F1 (Gr.refl (R.grow g).fh))⟩
theorem zgg {ft:Rho→Rs Bool}(h:XT X cl E a ft):XW X cl E (.BoolOp .Or [a] pos) ft:=let ⟨t,pt,rt⟩:=h.ex;XW'.out ⟨t,zkS pt,rt⟩
theorem zjE {rest:List Expr}{ft fu:Rho→Rs Bool}(h:XT X cl E a ft)(k:XW X cl E (.BoolOp .Or (b::rest) pos) fu):XW X cl E (.BoolOp .Or (a::b::rest) pos) (bOr ft fu):=by
 obtain⟨t,pt,rt⟩:=h.ex
 obtain⟨u,pu,ru⟩:=k.ex
 refine XW'.out ⟨_,zmy pt pu,fun H0 F0 ρ σ H F Q R o=>rt H0 F0 ρ σ H F _ R (OutB.fstB o fun b H1 F1 g o1=>?_)⟩
 cases b with
 | true=>exact o1 H1 F1 (Gr.refl (R.grow g).fh)
 | false=>exact ru H0 F0 ρ σ H1 F1 _ (R.grow g) o1
theorem XW.xt {e:Expr}{ft:Rho→Rs Bool}(h:XW X cl E e ft):XT X cl E e ft:=let ⟨t,pt,rt⟩:=h.ex;XT'.out ⟨t,pt.pt,rt⟩
def isN (neg:Bool):D→Option D
 | .non=>some (.bl (!neg))
 | _=>some (.bl neg)
theorem Dt.isnon {K:PySem.W.Frag}{F:Hp}{v:V}{d:D}(q:Dt K cl F v d):isN false d=some (.bl (decide (v=.non)))∧isN true d=some (.bl (!decide (v=.non))):=by cases q <;>exact⟨rfl,rfl⟩
theorem zkB {j pos'}(h:XE X cl E a fa):XE X cl E (.Compare a [.Is] [.Constant .none j pos'] pos) (f1 (isN false) fa):=by
 obtain⟨t,pt,rt⟩:=h.ex
 refine XE'.out ⟨_,zk5 (zlR pt),fun H0 F0 ρ σ H F Q R o=>rt H0 F0 ρ σ H F _ R (OutE.fst o fun d v H1 F1 g q o1=>?_)⟩
 rw[q.isnon.1] at o1
 exact o1.okI (R.grow g).fh (.bl _)
theorem zjP {j pos'}(h:XE X cl E a fa):XT X cl E (.Compare a [.IsNot] [.Constant .none j pos'] pos) (bT (f1 (isN true) fa)):=by
 obtain⟨t,pt,rt⟩:=h.ex
 refine XT'.out ⟨_,ziQ (zkp pt),fun H0 F0 ρ σ H F Q R o=>rt H0 F0 ρ σ H F _ R (OutE.fst (OutB.bT R o) fun d v H1 F1 g q o1=>?_)⟩
 rw[q.isnon.2] at o1
 exact o1.okI (R.grow g).fh (.bl _)
theorem zb0 {c:Expr}{ft:Rho→Rs Bool}(hc:XT X cl E c ft)(ha:XE X cl E a fa)(hb:XE X cl E b fb):XE X cl E (.IfExp c a b pos) (fIf ft fa fb):=by
 obtain⟨t,pt,rt⟩:=hc.ex
 obtain⟨u,pu,ru⟩:=ha.ex
 obtain⟨w,pw,rw'⟩:=hb.ex
 refine XE'.out ⟨_,zh0 pt pu pw,fun H0 F0 ρ σ H F Q R o=>rt H0 F0 ρ σ H F _ R (OutB.fst o fun b H1 F1 g o1=>?_)⟩
 cases b with
 | true=>exact ru H0 F0 ρ σ H1 F1 _ (R.grow g) o1
 | false=>exact rw' H0 F0 ρ σ H1 F1 _ (R.grow g) o1
theorem OutE.tru {H0 F H F1 H1:Hp}{d:D}{v:V}{g:Bool→Rs D}{Q:VK}(q:Dt X.K cl F v d)(o:OutE X.K cl E H0 F H ((tru d).bind g) Q):∃b,v=.bl b∧OutE X.K cl E H0 F H (g b) Q:=by
 cases e:L2.tru d with
 | ok b=>rw[e] at o;exact⟨b,zcr q e,o⟩
 | ex n=>cases d <;>simp[L2.tru] at e
 | no=>rw[e] at o;exact o.elim
theorem za8 {op}(h:XE X cl E a fa):XE X cl E (.BoolOp op [a] pos) fa:=let ⟨t,pt,rt⟩:=h.ex;XE'.out ⟨t,zlg pt,rt⟩
theorem zbF {rest:List Expr}(ha:XE X cl E a fa)(hb:XE X cl E (.BoolOp .And (b::rest) pos) fb):XE X cl E (.BoolOp .And (a::b::rest) pos) (zbw fa fb):=by
 obtain⟨t,pt,rt⟩:=ha.ex
 obtain⟨u,pu,ru⟩:=hb.ex
 refine XE'.out ⟨_,zlw pt pu,fun H0 F0 ρ σ H F Q R o=>rt H0 F0 ρ σ H F _ R (OutE.fst o fun d v H1 F1 g q o1=>?_)⟩
 obtain⟨b,rfl,o2⟩:=OutE.tru (F1:=F1) (H1:=H1) q o1
 refine⟨b,rfl,?_⟩
 cases b with
 | true=>exact ru H0 F0 ρ σ H1 F1 _ (R.grow g) o2
 | false=>exact o2.okI (R.grow g).fh (.bl _)
theorem zma {rest:List Expr}(ha:XE X cl E a fa)(hb:XE X cl E (.BoolOp .Or (b::rest) pos) fb):XE X cl E (.BoolOp .Or (a::b::rest) pos) (fOr fa fb):=by
 obtain⟨t,pt,rt⟩:=ha.ex
 obtain⟨u,pu,ru⟩:=hb.ex
 refine XE'.out ⟨_,zmL pt pu,fun H0 F0 ρ σ H F Q R o=>rt H0 F0 ρ σ H F _ R (OutE.fst o fun d v H1 F1 g q o1=>?_)⟩
 obtain⟨b,rfl,o2⟩:=OutE.tru (F1:=F1) (H1:=H1) q o1
 refine⟨b,rfl,?_⟩
 cases b with
 | true=>exact o2.okI (R.grow g).fh (.bl _)
 | false=>exact ru H0 F0 ρ σ H1 F1 _ (R.grow g) o2
theorem ziN (ha:XE X cl E a fa):XE X cl E (.UnaryOp .Not a pos) (zdO fa):=by
 obtain⟨t,pt,rt⟩:=ha.ex
 refine XE'.out ⟨_,zkX pt,fun H0 F0 ρ σ H F Q R o=>rt H0 F0 ρ σ H F _ R (OutE.fst o fun d v H1 F1 g q o1=>?_)⟩
 obtain⟨b,rfl,o2⟩:=OutE.tru (F1:=F1) (H1:=H1) q o1
 exact⟨b,rfl,o2.okI (R.grow g).fh (.bl _)⟩
def mkT (ds:List D):Option D:=if ds.length≤1000000 then some (.tup ds) else none
def mkL (ds:List D):Option D:=if ds.length≤1000000 then some (.lst ds) else none
theorem sz6 {n:Nat}(h:n≤1000000):n≤sizeLine:=by rw[sizeLine_eq];omega
theorem zeE {es:List Expr}{x1}{fs:Rho→Rs (List D)}(h:XA X cl E es fs):XE X cl E (.Tuple es x1 pos) (fO mkT fs):=by
 obtain⟨t,pt,rt⟩:=h.ex
 refine XE'.out ⟨_,zk9 pt,fun H0 F0 ρ σ H F Q R o=>rt H0 F0 ρ σ H F _ R (OutA.fst o fun ds vs H1 F1 g q o1=>?_)⟩
 unfold mkT at o1
 split at o1
 ·rename_i hl
  refine⟨sz6 (q.length▸hl),fun p hp=>?_⟩
  have fh:=(R.grow g).fh
  exact o1 _ _ _ (Gr.new fh hp) (.tup (.inl (.inl yg)) (q.mono (Same.upd (fh.free hp))))
 ·exact o1.elim
theorem zam {es:List Expr}{fs:Rho→Rs (List D)}(h:XA X cl E es fs):XE X cl E (.List es pos) (fO mkL fs):=by
 obtain⟨t,pt,rt⟩:=h.ex
 refine XE'.out ⟨_,ziB pt,fun H0 F0 ρ σ H F Q R o=>rt H0 F0 ρ σ H F _ R (OutA.fst o fun ds vs H1 F1 g q o1=>?_)⟩
 unfold mkL at o1
 split at o1
 ·rename_i hl
  refine⟨sz6 (q.length▸hl),fun p hp=>?_⟩
  have fh:=(R.grow g).fh
  exact o1 _ _ _ (Gr.new fh hp) (.lst (.inl (.inl yg)) (q.mono (Same.upd (fh.free hp))))
 ·exact o1.elim
def spD (K:PySem.W.Frag)(cl:Nat→Addr)(fn:List D→Rs D)(n:Nat):Sp:=fun vs H Q E=>∃F ds,Same F H∧Dts K cl F vs ds∧vs.length=n∧OutE K cl E H F H (fn ds) Q
def ari (n:Nat)(fn:List D→Rs D):List D→Rs D:=fun ds=>if ds.length=n then fn ds else .no
theorem zF {k:Nat}{f:Addr}{fd:FuncData}{ps:List Str}{fn:List D→Rs D}{n:Nat}{x:Str}{p:Pos}{e:Expr}{es:List Expr}{fs:Rho→Rs (List D)}(G:FnOk X.prog X.w X.K X.mg X.base (CX1 X.prog X.w) k f fd ps (spD X.K cl fn n))(hr:Room k X.A)(hg:Gl X x)(hm:X.mg x=some (.ref f))(hk:PySem.W.keepIn X.K (.ref f)=true)(hb:Binds X.K fd ps [])(hx:zcY (CX1 X.prog X.w) X E)
  (ha:XA X cl E (e::es) fs) (he:starEach (e::es) X.env=(false,eval e X.env)::starEach es X.env) (hdb:(x == ("__debug__" : Str))=false:=by decide) (hpl:(backTo pos (starEach es X.env)).any (·.1)=false:=by rfl):XE X cl E (.Call (.Name x p) (e::es) [] pos) (fA (ari n fn) fs):=by
 obtain⟨t,pt,rt⟩:=ha.ex
 refine XE'.out ⟨_,zke G hr hg hm hk hb .nil hx pt hdb he hpl,fun H0 F0 ρ σ H F Q R o=>rt H0 F0 ρ σ H F _ R (OutA.fst o fun ds vs H1 F1 g q o1=>?_)⟩
 unfold ari at o1
 split at o1
 ·rename_i hl
  rw[List.append_nil]
  have R1:=R.grow g
  refine⟨F1,ds,R1.fh,q,by rw[q.length,hl],?_⟩
  cases e:fn ds with
  | ok d=>rw[e] at o1;exact o1
  | ex n=>rw[e] at o1;exact fun H' s=>o1 H' (R1.gr.hh.trans s)
  | no=>rw[e] at o1;exact o1
 ·exact o1.elim
end
end L2
namespace L2
open PySem PySem.Spec PyProof.Rows
def D.fl:D→Bool
 | .non=>true
 | .bl _=>true
 | .int _=>true
 | .str _=>true
 | _=>false
def D.toV:D→V
 | .bl b=>.bl b
 | .int i=>.int i
 | .str l=>.str (T l)
 | _=>.non
def v5:D→D→Option D
 | .int i,.int j=>some (.int (i+j))
 | _,_=>none
def zdE:D→D→Option D
 | .int i,.int j=>some (.int (i - j))
 | _,_=>none
instance (i:Int):Decidable (Sm i):=inferInstanceAs (Decidable (i.natAbs<2 ^ 4000))
def zcB:D→D→Option D
 | .int i,.int j=>if Sm i∧Sm j then some (.int (i*j)) else none
 | _,_=>none
def zcS:D→D→Option D
 | .int i,.int j=>if 0<j then some (.int (i % j)) else none
 | _,_=>none
def zav:D→D→Option D
 | .int i,.int j=>if 0<j∧Sm j then some (.int (i / j)) else none
 | _,_=>none
def q9:D→D→Option D
 | .str l,.str m=>if l.length+m.length≤1000000 then some (.str (l++m)) else none
 | _,_=>none
def ltI:D→D→Option D
 | .int i,.int j=>some (.bl (decide (i<j)))
 | _,_=>none
def leI:D→D→Option D
 | .int i,.int j=>some (.bl (decide (i≤j)))
 | _,_=>none
def gtI:D→D→Option D
 | .int i,.int j=>some (.bl (decide (j<i)))
 | _,_=>none
def geI:D→D→Option D
 | .int i,.int j=>some (.bl (decide (j≤i)))
 | _,_=>none
def ltS:D→D→Option D
 | .str l,.str m=>some (.bl (decide (l<m)))
 | _,_=>none
def eqD (neg:Bool)(a b:D):Option D:=if a.pl=true∧b.pl=true∧a.py.depth≤60 then some (.bl (if neg then !PyData.eqv a.py b.py else PyData.eqv a.py b.py)) else none
def inQ (neg:Bool)(x:D)(ds:List D):Option D:=if x.fl=true∧ds.all D.fl=true then some (.bl (if neg then !inV x.toV (ds.map D.toV) else inV x.toV (ds.map D.toV))) else none
def inD (neg:Bool)(x:D):D→Option D
 | .lst ds=>inQ neg x ds
 | .tup ds=>inQ neg x ds
 | _=>none
def inC (neg:Bool):D→D→Option D
 | .str [c],.str l=>some (.bl (if neg then !decide (c∈l) else decide (c∈l)))
 | _,_=>none
def ixD:D→D→Option D
 | .lst ds,.int i=>atI ds i
 | .tup ds,.int i=>atI ds i
 | .str l,.int i=>(atI l i).map fun c=>.str [c]
 | _,_=>none
def zap {α:Type}(xs:List α)(lo hi:Option Int):List α:=(xs.drop (HT.sIx xs.length 0 lo)).take (HT.sIx xs.length xs.length hi - HT.sIx xs.length 0 lo)
def slD:D→Option Int→Option Int→Option D
 | .lst ds,lo,hi=>some (.lst (zap ds lo hi))
 | .tup ds,lo,hi=>some (.tup (zap ds lo hi))
 | .str l,lo,hi=>some (.str (zap l lo hi))
 | _,_,_=>none
section
variable {K:PySem.W.Frag}{cl:Nat→Addr}{F H:Hp}
theorem Dt.flat {v:V}{d:D}(q:Dt K cl F v d)(h:d.fl=true):v=d.toV∧uD v=true:=by
 cases q <;>first|exact⟨rfl,rfl⟩|(simp[D.fl] at h)
theorem Dts.flat:∀{vs:List V}{ds:List D},Dts K cl F vs ds→ds.all D.fl=true→vs=ds.map D.toV∧vs.all uD=true
 | _,_,.nil,_=>⟨rfl,rfl⟩
 | _,_,.cons q r,h=>by
  rw[List.all_cons,Bool.and_eq_true] at h
  obtain⟨e1,e2⟩:=q.flat h.1
  obtain⟨e3,e4⟩:=Dts.flat r h.2
  exact⟨by rw[List.map_cons,← e1,← e3],by rw[List.all_cons,e2,e4];rfl⟩
def I2 (f:Int→Int→Option D):D→D→Option D
 | .int i,.int j=>f i j
 | _,_=>none
theorem ziG {f:Int→Int→Option D}{a b d:D}(e:I2 f a b=some d):∃i j,a=.int i∧b=.int j∧f i j=some d:=by
 cases a with
 | int i =>
  cases b with
  | int j=>exact⟨i,j,rfl,rfl,e⟩
  | _=>cases e
 | _=>cases e
def S2 (f:List Nat→List Nat→Option D):D→D→Option D
 | .str i,.str j=>f i j
 | _,_=>none
theorem ziS {f:List Nat→List Nat→Option D}{a b d:D}(e:S2 f a b=some d):∃i j,a=.str i∧b=.str j∧f i j=some d:=by
 cases a with
 | str i =>
  cases b with
  | str j=>exact⟨i,j,rfl,rfl,e⟩
  | _=>cases e
 | _=>cases e
theorem Dt.intE {v:V}{i:Int}(q:Dt K cl F v (.int i)):v=.int i:=by cases q;rfl
theorem Dt.strE {v:V}{l:List Nat}(q:Dt K cl F v (.str l)):v=.str (T l)∧TxtOk (T l):=by cases q with|str _ ok=>exact⟨rfl,ok⟩
theorem zl6 {f:Int→Int→D}{r:Int→Int→V}(hf:∀{F:Hp} i j,Dt K cl F (r i j) (f i j)):Op2 K cl (rI0 r) (I2 fun i j=>some (f i j)):=fun F H x y a b d Q s qa qb e k=>by
 obtain⟨i,j,rfl,rfl,e1⟩:=ziG e
 obtain rfl:=qa.intE
 obtain rfl:=qb.intE
 obtain rfl:=Option.some.inj e1
 exact⟨_,_,rfl,rfl,k _ _ _ (Gr.refl s) (hf i j)⟩
theorem zmN {c:Int→Int→Prop} [∀i j,Decidable (c i j)]{f:Int→Int→Int}:Op2 K cl (rI c fun i j=>.int (f i j)) (I2 fun i j=>if c i j then some (.int (f i j)) else none):=fun F H x y a b d Q s qa qb e k=>by
 obtain⟨i,j,rfl,rfl,e1⟩:=ziG e
 obtain rfl:=qa.intE
 obtain rfl:=qb.intE
 by_cases h:c i j
 ·rw[if_pos h] at e1
  obtain rfl:=Option.some.inj e1
  exact⟨_,_,rfl,rfl,h,k _ _ _ (Gr.refl s) (.int _)⟩
 ·rw[if_neg h] at e1;cases e1
theorem vf:Op2 K cl (rI0 fun i j=>.int (i+j)) v5:=zl6 fun _ _=>.int _
theorem zlO:Op2 K cl (rI0 fun i j=>.int (i - j)) zdE:=zl6 fun _ _=>.int _
theorem jh:Op2 K cl (rI (fun i j=>Sm i∧Sm j) fun i j=>.int (i*j)) zcB:=zmN
theorem jQ:Op2 K cl (rI (fun _ j=>0<j) fun i j=>.int (i % j)) zcS:=zmN
theorem j6:Op2 K cl (rI (fun _ j=>0<j∧Sm j) fun i j=>.int (i / j)) zav:=zmN
theorem qH:Op2 K cl (fun x y H Q=>∃l m,x=.str (T l)∧y=.str (T m)∧l.length+m.length≤1000000∧Q (.str (T (l++m))) H) q9:=fun F H x y a b d Q s qa qb e k=>by
 obtain⟨l,m,rfl,rfl,e1⟩:=ziS (f:=fun l m=>if l.length+m.length≤1000000 then some (.str (l++m)) else none) e
 obtain⟨rfl,ok⟩:=qa.strE
 obtain⟨rfl,ok2⟩:=qb.strE
 split at e1
 ·rename_i h
  obtain rfl:=Option.some.inj e1
  refine⟨_,_,rfl,rfl,h,k _ _ _ (Gr.refl s) (.str _ ?_)⟩
  rw[← zlY]
  exact TxtOk.app ok ok2 (by rw[zax,zax];exact h)
 ·cases e1
theorem zkN:Op2 K cl (rI0 fun i j=>.bl (decide (i<j))) ltI:=zl6 fun _ _=>.bl _
theorem zhF:Op2 K cl (rI0 fun i j=>.bl (decide (i≤j))) leI:=zl6 fun _ _=>.bl _
theorem zmw:Op2 K cl (fun x y H Q=>∃i j,x=.str i∧y=.str j∧Q (.bl (decide (i.cps.toList<j.cps.toList))) H) ltS:=fun F H x y a b d Q s qa qb e k=>by
 obtain⟨l,m,rfl,rfl,e1⟩:=ziS (f:=fun l m=>some (.bl (decide (l<m)))) e
 obtain⟨rfl,ok⟩:=qa.strE
 obtain⟨rfl,ok2⟩:=qb.strE
 obtain rfl:=Option.some.inj e1
 refine⟨_,_,rfl,rfl,?_⟩
 rw[jL,jL]
 exact k _ _ _ (Gr.refl s) (.bl _)
theorem ziP:Op2 K cl (zm5 K) (eqD false):=fun F H x y a b d Q s qa qb e k=>by
 unfold eqD at e
 split at e
 ·rename_i h
  obtain rfl:=Option.some.inj e
  exact⟨_,_,(qa.is h.1).mono s,(qb.is h.2.1).mono s,h.2.2,k _ _ _ (Gr.refl s) (.bl _)⟩
 ·cases e
theorem zel:Op2 K cl (zmZ K) (eqD true):=fun F H x y a b d Q s qa qb e k=>by
 unfold eqD at e
 split at e
 ·rename_i h
  obtain rfl:=Option.some.inj e
  exact⟨_,_,(qa.is h.1).mono s,(qb.is h.2.1).mono s,h.2.2,k _ _ _ (Gr.refl s) (.bl _)⟩
 ·cases e
theorem zgL {neg:Bool}{x:V}{a d:D}{p:Addr}{vs:List V}{ds:List D}{Q:VK}(s:Same F H)(qa:Dt K cl F x a)(sq:SqL K H p vs∨SqT K H p vs)(dq:Dts K cl F vs ds)(e:inQ neg a ds=some d)(k:∀v H' F',Gr F H F' H'→Dt K cl F' v d→Q v H'):rIn K neg x (.ref p) H Q:=by
 unfold inQ at e
 split at e
 ·rename_i h
  obtain rfl:=Option.some.inj e
  obtain⟨e1,e2⟩:=qa.flat h.1
  obtain⟨e3,e4⟩:=dq.flat h.2
  refine⟨p,vs,rfl,sq,e2,e4,?_⟩
  rw[e1,e3]
  exact k _ _ _ (Gr.refl s) (.bl _)
 ·cases e
theorem zl5 {neg:Bool}:Op2 K cl (rIn K neg) (inD neg):=fun F H x y a b d Q s qa qb e k=>by
 cases qb with
 | lst sq dq=>exact zgL s qa (.inl (s.seq sq)) dq e k
 | tup sq dq=>exact zgL s qa (.inr (s.seqT sq)) dq e k
 | _=>cases e
theorem zjS {neg:Bool}{a b d:D}(e:inC neg a b=some d):∃c l,a=.str [c]∧b=.str l∧d=.bl (if neg then !decide (c∈l) else decide (c∈l)):=by
 cases a with
 | str l =>
  match l,e with
  | [c],e =>
   cases b with
   | str m=>exact⟨c,m,rfl,rfl,(Option.some.inj e).symm⟩
   | _=>cases e
 | _=>cases e
theorem zmM:Op2 K cl zmS (inC false):=fun F H x y a b d Q s qa qb e k=>by
 obtain⟨c,l,rfl,rfl,rfl⟩:=zjS e
 obtain⟨rfl,_⟩:=qa.strE
 obtain⟨rfl,_⟩:=qb.strE
 exact⟨c,l,rfl,rfl,k _ _ _ (Gr.refl s) (.bl _)⟩
theorem Dts.at {vs:List V}{ds:List D}{i:Int}{d:D}(q:Dts K cl F vs ds)(e:atI ds i=some d):∃v,atI vs i=some v∧Dt K cl F v d:=by
 unfold atI at e ⊢
 rw[q.length]
 cases h:ixN ds.length i with
 | none=>rw[h] at e;cases e
 | some j =>
  rw[h] at e
  exact q.get' e
theorem zf1 {l m:List Nat}(ok:TxtOk (T l))(h:∀c∈m,c∈l)(hl:m.length≤1000000):TxtOk (T m):=by
 refine uV (fun c hc=>?_) hl
 have a:(T l).cps.all (· < 0x110000)=true:=ok.1
 simp only[T,List.all_toArray,List.all_eq_true,decide_eq_true_eq] at a
 exact a c (h c hc)
theorem zmb {l:List Nat}{c:Nat}(ok:TxtOk (T l))(h:c∈l):TxtOk (T [c]):=zf1 ok (fun d hd=>by rw[List.mem_singleton.mp hd];exact h) (Nat.le_add_left 1 999999)
theorem zi6 {a b d:D}(e:ixD a b=some d):∃i,b=.int i:=by
 cases b with
 | int i=>exact⟨i,rfl⟩
 | _=>cases a <;>cases e
theorem znj:Op2 K cl (rIx K) ixD:=fun F H x y a b d Q s qa qb e k=>by
 obtain⟨i,rfl⟩:=zi6 e
 obtain rfl:=qb.intE
 ·cases qa with
  | lst sq dq =>
   obtain⟨v,h1,h2⟩:=dq.at e
   exact .inl ⟨_,_,_,_,rfl,rfl,s.seq sq,h1,k _ _ _ (Gr.refl s) h2⟩
  | tup sq dq =>
   obtain⟨v,h1,h2⟩:=dq.at e
   exact .inr (.inl ⟨_,_,_,_,rfl,rfl,s.seqT sq,h1,k _ _ _ (Gr.refl s) h2⟩)
  | str l ok =>
   have e':(atI l i).map (fun c=>D.str [c])=some d:=e
   cases h:atI l i with
   | none=>rw[h] at e';cases e'
   | some c =>
    rw[h] at e'
    obtain rfl:=Option.some.inj e'
    refine .inr (.inr ⟨T l,i,c,rfl,rfl,sz6 ok.2,by rw[jL];exact h,k _ _ _ (Gr.refl s) (.str [c] (zmb ok ?_))⟩)
    unfold atI at h
    cases h2:ixN l.length i with
    | none=>rw[h2] at h;cases h
    | some j=>rw[h2] at h;exact List.mem_of_getElem? h
  | _=>cases e
end
end L2
namespace L2
open PySem PySem.Spec PyProof.Rows
def tDS (K:PySem.W.Frag)(cl:Nat→Addr)(E:XK)(g:Rho→Out):TS:=fun Dn σ H=>∃H0 F0 ρ F,Rl K cl H0 F0 ρ σ H F∧OutS K cl E H0 F0 F (g ρ) Dn
def XS (X:Cx)(cl:Nat→Addr)(E:XK)(st:Stmt)(g:Rho→Out):Prop:=PS X st (tDS X.K cl E g)
def XSs (X:Cx)(cl:Nat→Addr)(E:XK)(st:List Stmt)(g:Rho→Out):Prop:=PSs X st (tDS X.K cl E g)
def sNx:Rho→Out:=fun ρ=>.nx ρ
def zV (g h:Rho→Out):Rho→Out:=fun ρ=>match g ρ with | .nx ρ'=>h ρ'|o=>o
def yO (f:Rho→Rs D):Rho→Out:=fun ρ=>match f ρ with | .ok d=>.rt d | .ex n=>.ex n | .no=>.no
def vR (f:Rho→Rs D):Rho→Out:=fun ρ=>match f ρ with | .ok _=>.nx ρ | .ex n=>.ex n | .no=>.no
def yL (i:Nat)(f:Rho→Rs D):Rho→Out:=fun ρ=>match f ρ with | .ok d=>.nx (ρ.set i (.fz d)) | .ex n=>.ex n | .no=>.no
def sIf (ft:Rho→Rs Bool)(g h:Rho→Out):Rho→Out:=fun ρ=>match ft ρ with | .ok true=>g ρ | .ok false=>h ρ | .ex n=>.ex n | .no=>.no
def zau (i j:Nat)(f:Rho→Rs D):Rho→Out:=fun ρ=>match f ρ with | .ok (.tup [a,b])=>.nx ((ρ.set i (.fz a)).set j (.fz b)) | .ok _=>.no | .ex n=>.ex n | .no=>.no
def zbn (i:Nat)(g:Rho→Out):Rho→Out:=fun ρ=>match ρ[i]? with|some (.ow ds)=>g (ρ.set i (.fz (.lst ds)))|_=>.no
def qQ (g:Rho→Out):Rho→Out:=fun ρ=>match g ρ with | .ex _=>.no|o=>o
def forD (i:Nat)(g:Rho→Out):List D→Rho→Out
 | [],ρ=>.nx ρ
 | d::ds,ρ=>match g (ρ.set i (.fz d)) with | .nx ρ'=>forD i g ds ρ' | .ct ρ'=>forD i g ds ρ' | .bk ρ'=>.nx ρ'|o=>o
def uz (i:Nat)(fi:Rho→Rs (List D))(g:Rho→Out):Rho→Out:=fun ρ=>match fi ρ with | .ok ds=>forD i g ds ρ | .ex n=>.ex n | .no=>.no
def whD (ft:Rho→Rs Bool)(g:Rho→Out):Nat→Rho→Out
 | 0,_=>.no
 | n+1,ρ=>match ft ρ with
  | .ok true=>(match g ρ with | .nx ρ'=>whD ft g n ρ' | .ct ρ'=>whD ft g n ρ' | .bk ρ'=>.nx ρ'|o=>o)
  | .ok false=>.nx ρ
  | .ex n=>.ex n
  | .no=>.no
def sWh (n:Nat)(ft:Rho→Rs Bool)(g:Rho→Out):Rho→Out:=whD ft g n
def owL (ρ:Rho)(i:Nat):Option (List D):=match ρ[i]? with|some (.ow ds)=>some ds|_=>none
theorem zcv {ρ:Rho}{i:Nat}{ds:List D}(h:owL ρ i=some ds):ρ[i]? = some (.ow ds):=by
 unfold owL at h
 split at h
 ·rename_i e;rw[e,Option.some.inj h]
 ·cases h
def zaE (i:Nat)(f:Rho→Rs D):Rho→Out:=fun ρ=>match owL ρ i with
 | some ds=>(match f ρ with | .ok d=>if ds.length<1000000 then .nx (ρ.set i (.ow (ds++[d]))) else .no | .ex n=>.ex n | .no=>.no)
 | none=>.no
section
variable {K:PySem.W.Frag}{cl:Nat→Addr}{E:XK}{H0 F0 F F1:Hp}
theorem OutS.grow {o:Out}{Dn:Ends}(h:OutS K cl E H0 F0 F o Dn)(s:Same F F1):OutS K cl E H0 F0 F1 o Dn:=by
 cases o with
 | nx ρ=>exact fun σ H F' R q=>h σ H F' R (s.trans q)
 | bk ρ=>exact fun σ H F' R q=>h σ H F' R (s.trans q)
 | ct ρ=>exact fun σ H F' R q=>h σ H F' R (s.trans q)
 | rt d=>exact h
 | ex n=>exact h
 | no=>exact h
end
section
variable {X:Cx}{cl:Nat→Addr}{E:XK}{st:Stmt}{rest:List Stmt}{g h:Rho→Out}{f:Rho→Rs D}{e:Expr}{pos:Pos}
def XS' (X:Cx)(cl:Nat→Addr)(E:XK)(st:Stmt)(g:Rho→Out):Prop:=∃t:TS,PS X st t∧∀(H0 F0:Hp) (ρ:Rho) (σ:St) (H F:Hp) (Dn:Ends),Rl X.K cl H0 F0 ρ σ H F→OutS X.K cl E H0 F0 F (g ρ) Dn→t Dn σ H
def XSs' (X:Cx)(cl:Nat→Addr)(E:XK)(st:List Stmt)(g:Rho→Out):Prop:=∃t:TS,PSs X st t∧∀(H0 F0:Hp) (ρ:Rho) (σ:St) (H F:Hp) (Dn:Ends),Rl X.K cl H0 F0 ρ σ H F→OutS X.K cl E H0 F0 F (g ρ) Dn→t Dn σ H
theorem XS.ex (h:XS X cl E st g):XS' X cl E st g:=⟨_,h,fun H0 F0 ρ σ H F Dn R o=>⟨H0,F0,ρ,F,R,o⟩⟩
theorem XSs.ex (h:XSs X cl E rest g):XSs' X cl E rest g:=⟨_,h,fun H0 F0 ρ σ H F Dn R o=>⟨H0,F0,ρ,F,R,o⟩⟩
theorem XS'.out (h:XS' X cl E st g):XS X cl E st g:=let ⟨_,pt,rt⟩:=h;fun pins s σ H Dn I ⟨H0,F0,ρ,F,R,o⟩=>pt pins s σ H Dn I (rt H0 F0 ρ σ H F Dn R o)
theorem XSs'.out (h:XSs' X cl E rest g):XSs X cl E rest g:=let ⟨_,pt,rt⟩:=h;fun pins s σ H Dn I ⟨H0,F0,ρ,F,R,o⟩=>pt pins s σ H Dn I (rt H0 F0 ρ σ H F Dn R o)
theorem yJ:XSs X cl E [] sNx:=XSs'.out ⟨_,zj2,fun H0 F0 ρ σ H F Dn R o=>o σ H F R (Same.refl _)⟩
theorem zy (h:XS X cl E st g):XSs X cl E [st] g:=let ⟨t,pt,rt⟩:=h.ex;XSs'.out ⟨t,zgV pt,rt⟩
theorem zq (h1:XS X cl E st g)(h2:XSs X cl E rest h):XSs X cl E (st::rest) (zV g h):=by
 obtain⟨t,pt,rt⟩:=h1.ex
 obtain⟨u,pu,ru⟩:=h2.ex
 refine XSs'.out ⟨_,zhP pt pu,fun H0 F0 ρ σ H F Dn R o=>rt H0 F0 ρ σ H F _ R ?_⟩
 unfold zV at o
 cases e:g ρ with
 | nx ρ'=>rw[e] at o;exact fun σ' H' F' R' s=>ru H0 F0 ρ' σ' H' F' Dn R' (o.grow s)
 | bk ρ'=>rw[e] at o;exact o
 | ct ρ'=>rw[e] at o;exact o
 | rt d=>rw[e] at o;exact o
 | ex n=>rw[e] at o;exact o
 | no=>rw[e] at o;exact o
theorem zR (h:XE X cl E e f):XS X cl E (.Return (some e) pos) (yO f):=by
 obtain⟨t,pt,rt⟩:=h.ex
 refine XS'.out ⟨_,ziW pt,fun H0 F0 ρ σ H F Dn R o=>rt H0 F0 ρ σ H F _ R ?_⟩
 unfold yO at o
 cases e:f ρ with
 | ok d=>rw[e] at o;exact fun v H' F' gg q=>o v H' F' (R.gr.trans gg) q
 | ex n=>rw[e] at o;exact o
 | no=>rw[e] at o;exact o
theorem j4 (h:XE X cl E e f)(hs:swapsWith e none pos.line X.env=pure false:=by rfl):XS X cl E (.Expr e pos) (vR f):=by
 obtain⟨t,pt,rt⟩:=h.ex
 refine XS'.out ⟨_,zgQ pt hs,fun H0 F0 ρ σ H F Dn R o=>rt H0 F0 ρ σ H F _ R ?_⟩
 unfold vR at o
 cases e:f ρ with
 | ok d=>rw[e] at o;exact fun v H' F' gg q=>o σ H' F' (R.grow gg) gg.ff
 | ex n=>rw[e] at o;exact o
 | no=>rw[e] at o;exact o
theorem zX {i:Nat}{x:Str}{pos':Pos}(hN:X.N.Nodup)(hi:X.N[i]? = some x)(hx:Loc X.env.scope x)(he:XE X cl E e f)(hs:swapsWith e (some (.Name x pos')) pos.line X.env=pure false:=by rfl)(hf:X.fn x=true∨X.env.scope.names.lookup x=some .local:=by first|exact .inl rfl|exact .inr rfl|assumption) :
  XS X cl E (.Assign [.Name x pos'] e pos) (yL i f):=by
 obtain⟨t,pt,rt⟩:=he.ex
 refine XS'.out ⟨_,zf7 hN hi hx pt hs hf,fun H0 F0 ρ σ H F Dn R o=>rt H0 F0 ρ σ H F _ R ?_⟩
 unfold yL at o
 cases e:f ρ with
 | ok d=>rw[e] at o;exact fun v H' F' gg q=>o _ H' F' ((R.grow gg).set q) gg.ff
 | ex n=>rw[e] at o;exact o
 | no=>rw[e] at o;exact o
theorem ug {c:Expr}{a b:List Stmt}{ft:Rho→Rs Bool}(hc:XT X cl E c ft)(ha:XSs X cl E a g)(hb:XSs X cl E b h):XS X cl E (.If c a b pos) (sIf ft g h):=by
 obtain⟨t,pt,rt⟩:=hc.ex
 obtain⟨u,pu,ru⟩:=ha.ex
 obtain⟨w,pw,rw'⟩:=hb.ex
 refine XS'.out ⟨_,zmP pt pu pw,fun H0 F0 ρ σ H F Dn R o=>rt H0 F0 ρ σ H F _ R ?_⟩
 unfold sIf at o
 cases e:ft ρ with
 | ok b =>
  rw[e] at o
  intro H' F' gg
  cases b with
  | true=>exact ru H0 F0 ρ σ H' F' Dn (R.grow gg) (o.grow gg.ff)
  | false=>exact rw' H0 F0 ρ σ H' F' Dn (R.grow gg) (o.grow gg.ff)
 | ex n=>rw[e] at o;exact o
 | no=>rw[e] at o;exact o
theorem uY (h:XS X.nox cl E0 st g):XS X cl E st (qQ g):=by
 obtain⟨t,pt,rt⟩:=h.ex
 refine XS'.out ⟨_,pt.nox,fun H0 F0 ρ σ H F Dn R o=>rt H0 F0 ρ σ H F _ R ?_⟩
 unfold qQ at o
 cases e:g ρ with
 | nx ρ'=>rw[e] at o;exact o
 | bk ρ'=>rw[e] at o;exact o
 | ct ρ'=>rw[e] at o;exact o
 | rt d=>rw[e] at o;exact o
 | ex n=>rw[e] at o;exact o.elim
 | no=>rw[e] at o;exact o
theorem zc4 {i:Nat}(h:XS X cl E st g):XS X cl E st (zbn i g):=by
 obtain⟨t,pt,rt⟩:=h.ex
 refine XS'.out ⟨_,pt,fun H0 F0 ρ σ H F Dn R o=>?_⟩
 unfold zbn at o
 split at o
 ·rename_i ds e
  obtain⟨F',s,R'⟩:=R.ice e
  exact rt H0 F0 _ σ H F' Dn R' (o.grow s)
 ·exact o.elim
theorem zez {c:Expr}{body:List Stmt}{ft:Rho→Rs Bool}(n:Nat)(hp:PassesOwn (model X.prog X.w) X.A X.env X.xe)(hc:XT X cl E c ft)(hb:XSs X cl E body g):XS X cl E (.While c body [] pos) (sWh n ft g):=by
 obtain⟨t,pt,rt⟩:=hc.ex
 obtain⟨u,pu,ru⟩:=hb.ex
 refine XS'.out ⟨_,zhC hp pt pu,fun H0 F0 ρ σ H F Dn R o=>?_⟩
 refine⟨fun m σ H=>∃ρ F',Rl X.K cl H0 F0 ρ σ H F'∧OutS X.K cl E H0 F0 F' (whD ft g m ρ) Dn,⟨n,ρ,F,R,o⟩,?_⟩
 rintro m σ1 H1 ⟨ρ1,F1,R1,o1⟩
 cases m with
 | zero=>exact o1.elim
 | succ m =>
  refine rt H0 F0 ρ1 σ1 H1 F1 _ R1 ?_
  unfold whD at o1
  cases e:ft ρ1 with
  | ok b =>
   rw[e] at o1
   intro H2 F2 gg
   have R2:=R1.grow gg
   cases b with
   | false=>exact o1 σ1 H2 F2 R2 gg.ff
   | true =>
    refine⟨fun σ H=>∃ρ F',Rl X.K cl H0 F0 ρ σ H F'∧OutS X.K cl E H0 F0 F' (whD ft g m ρ) Dn,fun σ' H' p=>⟨m,Nat.lt_succ_self _,p⟩,ru H0 F0 ρ1 σ1 H2 F2 _ R2 ?_⟩
    have o2:=o1.grow gg.ff
    cases e2:g ρ1 with
    | nx ρ'=>simp only[e2] at o2;exact fun σ' H' F' R' s=>⟨ρ',F',R',o2.grow s⟩
    | ct ρ'=>simp only[e2] at o2;exact fun σ' H' F' R' s=>⟨ρ',F',R',o2.grow s⟩
    | bk ρ'=>simp only[e2] at o2;exact o2
    | rt d=>simp only[e2] at o2;exact o2
    | ex n=>simp only[e2] at o2;exact o2
    | no=>simp only[e2] at o2;exact o2
  | ex n=>rw[e] at o1;exact o1
  | no=>rw[e] at o1;exact o1
def OutI (K:PySem.W.Frag)(cl:Nat→Addr)(E:XK)(H0 F H:Hp)(r:Rs (List D))(Q:It→Hp→Prop):Prop :=
 match r with
 | .ok ds=>∀J G vs H' F',Gr F H F' H'→Wlk J G vs→(∀H'',Same F' H''→G H'')→Dts K cl F' vs ds→Q J H'
 | .ex n=>∀H',Same H0 H'→E (.ref (cl n)) none H'
 | .no=>False
def tDI (K:PySem.W.Frag)(cl:Nat→Addr)(E:XK)(f:Rho→Rs (List D)):TI:=fun σ H Q=>∃H0 F0 ρ F,Rl K cl H0 F0 ρ σ H F∧OutI K cl E H0 F H (f ρ) Q
def XI (X:Cx)(cl:Nat→Addr)(E:XK)(tg e:Expr)(f:Rho→Rs (List D)):Prop:=PI X tg e (tDI X.K cl E f)
theorem XI.mk {tg:Expr}{fi:Rho→Rs (List D)}{t:TI}(pt:PI X tg e t)(rt:∀(H0 F0:Hp) (ρ:Rho) (σ:St) (H F:Hp) (Q:It→Hp→Prop),Rl X.K cl H0 F0 ρ σ H F→OutI X.K cl E H0 F H (fi ρ) Q→t σ H Q):XI X cl E tg e fi :=
 fun pins s σ H Q I ⟨H0,F0,ρ,F,R,o⟩=>pt pins s σ H Q I (rt H0 F0 ρ σ H F Q R o)
def lsD:D→Option (List D)
 | .lst ds=>some ds
 | _=>none
def tpD:D→Option (List D)
 | .tup ds=>some ds
 | _=>none
def sgD:D→Option (List D)
 | .str l=>some (l.map fun c=>.str [c])
 | _=>none
def fI (g:D→Option (List D))(f:Rho→Rs D):Rho→Rs (List D):=fun ρ=>(f ρ).bind fun d=>match g d with|some ds=>.ok ds|none=>.no
theorem OutI.fst {K:PySem.W.Frag}{H0 F H:Hp}{r:Rs D}{k:D→Rs (List D)}{Q:It→Hp→Prop}{P:VK}(h:OutI K cl E H0 F H (r.bind k) Q)(z:∀d v H1 F1,Gr F H F1 H1→Dt K cl F1 v d→OutI K cl E H0 F1 H1 (k d) Q→P v H1):OutE K cl E H0 F H r P:=by
 cases r with
 | ok d =>
  refine fun v H' F' g' q=>z d v H' F' g' q ?_
  have h':OutI K cl E H0 F H (k d) Q:=h
  cases e:k d with
  | ok ds=>rw[e] at h';exact fun J G vs H2 F2 g2=>h' J G vs H2 F2 (g'.trans g2)
  | ex n=>rw[e] at h';exact h'
  | no=>rw[e] at h';exact h'
 | ex n=>exact h
 | no=>exact h
theorem uT {tg:Expr}(h:XE X cl E e f):XI X cl E tg e (fI lsD f):=by
 obtain⟨t,pt,rt⟩:=h.ex
 refine XI.mk (zje pt) fun H0 F0 ρ σ H F Q R o=>rt H0 F0 ρ σ H F _ R (OutI.fst o fun d v H1 F1 g q o1=>?_)
 cases q with
 | lst sq dq =>
  have fh:=(R.grow g).fh
  exact⟨_,rfl,⟨_,fh.seq sq⟩,o1 _ _ _ H1 F1 (Gr.refl fh) zhD (fun H'' s=>s.seq sq) dq⟩
 | _=>exact o1.elim
theorem zcR {tg:Expr}(h:XE X cl E e f):XI X cl E tg e (fI tpD f):=by
 obtain⟨t,pt,rt⟩:=h.ex
 refine XI.mk (zkE pt) fun H0 F0 ρ σ H F Q R o=>rt H0 F0 ρ σ H F _ R (OutI.fst o fun d v H1 F1 g q o1=>?_)
 cases q with
 | tup sq dq =>
  have fh:=(R.grow g).fh
  exact⟨_,rfl,⟨_,fh.seqT sq⟩,o1 _ _ _ H1 F1 (Gr.refl fh) zjr (fun H'' s=>s.seqT sq) dq⟩
 | _=>exact o1.elim
theorem zaY {K:PySem.W.Frag}{F:Hp}:∀{l:List Nat},(∀c∈l,TxtOk (T [c]))→Dts K cl F (l.map fun c=>V.str (T [c])) (l.map fun c=>D.str [c])
 | [],_=>.nil
 | c::l,h=>.cons (.str [c] (h c (.head _))) (zaY fun d hd=>h d (.tail _ hd))
theorem ziF {tg:Expr}(h:XE X cl E e f):XI X cl E tg e (fI sgD f):=by
 obtain⟨t,pt,rt⟩:=h.ex
 refine XI.mk (zlv pt) fun H0 F0 ρ σ H F Q R o=>rt H0 F0 ρ σ H F _ R (OutI.fst o fun d v H1 F1 g q o1=>?_)
 cases q with
 | str l ok =>
  have fh:=(R.grow g).fh
  have w:=zkc (x:=T l) (G:=fun _=>True)
  rw[jL] at w
  exact⟨_,rfl,o1 _ _ _ H1 F1 (Gr.refl fh) w (fun _ _=>trivial) (zaY fun c hc=>zmb ok hc)⟩
 | _=>exact o1.elim
def j9:List D→Option (List D)
 | [.int j]=>if -(2 ^ 62)≤j∧j<2 ^ 62 then some ((List.range j.toNat).map fun(k:Nat)=>.int (k:Int)) else none
 | _=>none
def zhm:List D→Option (List D)
 | [.int i,.int j,.int c]=>if 0≤i∧i≤j∧j<2 ^ 20∧0<c∧c<2 ^ 20 then some ((List.range ((j - i+c - 1) / c).toNat).map fun(k:Nat)=>.int (i+(k:Int)*c)) else none
 | _=>none
def fR (g:List D→Option (List D))(fs:Rho→Rs (List D)):Rho→Rs (List D):=fun ρ=>(fs ρ).bind fun ds=>match g ds with|some es=>.ok es|none=>.no
theorem OutI.fstA {K:PySem.W.Frag}{H0 F H:Hp}{r:Rs (List D)}{k:List D→Rs (List D)}{Q:It→Hp→Prop}{P:List V→Hp→Prop}(h:OutI K cl E H0 F H (r.bind k) Q)(z:∀d v H1 F1,Gr F H F1 H1→Dts K cl F1 v d→OutI K cl E H0 F1 H1 (k d) Q→P v H1):OutA K cl E H0 F H r P:=by
 cases r with
 | ok d =>
  refine fun v H' F' g' q=>z d v H' F' g' q ?_
  have h':OutI K cl E H0 F H (k d) Q:=h
  cases e:k d with
  | ok ds=>rw[e] at h';exact fun J G vs H2 F2 g2=>h' J G vs H2 F2 (g'.trans g2)
  | ex n=>rw[e] at h';exact h'
  | no=>rw[e] at h';exact h'
 | ex n=>exact h
 | no=>exact h
theorem zaV {K:PySem.W.Frag}{F:Hp}{α:Type}{v:α→V}{d:α→D}:∀{l:List α},(∀x∈l,Dt K cl F (v x) (d x))→Dts K cl F (l.map v) (l.map d)
 | [],_=>.nil
 | c::l,h=>.cons (h c (.head _)) (zaV fun d hd=>h d (.tail _ hd))
theorem Dts.one {K:PySem.W.Frag}{F:Hp}{vs:List V}{d:D}(q:Dts K cl F vs [d]):∃v,vs=[v]∧Dt K cl F v d:=by
 cases q with
 | cons q r=>cases r;exact⟨_,rfl,q⟩
theorem Dts.two {K:PySem.W.Frag}{F:Hp}{vs:List V}{d e:D}(q:Dts K cl F vs [d,e]):∃v w,vs=[v,w]∧Dt K cl F v d∧Dt K cl F w e:=by
 cases q with
 | cons q r=>obtain⟨w,rfl,q2⟩:=r.one;exact⟨_,_,rfl,q,q2⟩
theorem Dts.three {K:PySem.W.Frag}{F:Hp}{vs:List V}{d e c:D}(q:Dts K cl F vs [d,e,c]):∃v w u,vs=[v,w,u]∧Dt K cl F v d∧Dt K cl F w e∧Dt K cl F u c:=by
 cases q with
 | cons q r=>obtain⟨w,u,rfl,q2,q3⟩:=r.two;exact⟨_,_,_,rfl,q,q2,q3⟩
theorem yI {tg a:Expr}{p:Pos}{fs:Rho→Rs (List D)}(hg:Gl X "range")(hm:X.mg "range" = none)(ha:XA X cl E [a] fs)(hs:starEach [a] X.env=[(false,eval a X.env)]):XI X cl E tg (.Call (.Name "range" p) [a] [] pos) (fR j9 fs):=by
 obtain⟨t,pt,rt⟩:=ha.ex
 refine XI.mk (zgF hg hm pt hs) fun H0 F0 ρ σ H F Q R o=>rt H0 F0 ρ σ H F _ R (OutI.fstA o fun d v H1 F1 g q o1=>?_)
 match d,q,o1 with
 | [.int j],q,o1 =>
  obtain⟨v',rfl,q1⟩:=q.one
  cases q1
  dsimp only [j9] at o1
  by_cases h:-(2 ^ 62)≤j∧j<2 ^ 62
  ·rw[if_pos h] at o1
   refine⟨j,rfl,h.1,h.2,o1 _ (fun _=>True) _ H1 F1 (Gr.refl (R.grow g).fh) zgk (fun _ _=>trivial) (zaV fun k _=>?_)⟩
   rw[Int.zero_add];exact .int _
  ·rw[if_neg h] at o1;exact o1.elim
theorem zde {tg a b c:Expr}{p:Pos}{fs:Rho→Rs (List D)}(hg:Gl X "range")(hm:X.mg "range" = none)(ha:XA X cl E [a,b,c] fs)(hs:starEach [a,b,c] X.env=[(false,eval a X.env),(false,eval b X.env),(false,eval c X.env)])(hs2:starEach [b,c] X.env=[(false,eval b X.env),(false,eval c X.env)]):XI X cl E tg (.Call (.Name "range" p) [a,b,c] [] pos) (fR zhm fs):=by
 obtain⟨t,pt,rt⟩:=ha.ex
 refine XI.mk (zfT hg hm pt hs hs2) fun H0 F0 ρ σ H F Q R o=>rt H0 F0 ρ σ H F _ R (OutI.fstA o fun d v H1 F1 g q o1=>?_)
 match d,q,o1 with
 | [.int i,.int j,.int c],q,o1 =>
  obtain⟨v,w,u,rfl,q1,q2,q3⟩:=q.three
  cases q1;cases q2;cases q3
  dsimp only [zhm] at o1
  by_cases h:0≤i∧i≤j∧j<2 ^ 20∧0<c∧c<2 ^ 20
  ·rw[if_pos h] at o1
   exact⟨i,j,c,rfl,h.1,h.2.1,h.2.2.1,h.2.2.2.1,h.2.2.2.2,o1 _ (fun _=>True) _ H1 F1 (Gr.refl (R.grow g).fh) zfj (fun _ _=>trivial) (zaV fun k _=>.int _)⟩
  ·rw[if_neg h] at o1;exact o1.elim
theorem vZ {tg iter:Expr}{body:List Stmt}{fi:Rho→Rs (List D)}{i:Nat}(hp:PassesOwn (model X.prog X.w) X.A X.env X.xe)(hc:X.calm=true)(hi:XI X cl E tg iter fi)(hg:PG X tg (qx i))(hb:XSs X cl E body g)(hs:∀x,foldedSetIterable iter X.env x=pure x:=by intro _;rfl):XS X cl E (.For tg iter body [] pos) (uz i fi g):=by
 obtain⟨u,pu,ru⟩:=hb.ex
 refine XS'.out ⟨_,ziI hp hc hi hg pu hs,fun H0 F0 ρ σ H F Dn R o=>⟨H0,F0,ρ,F,R,?_⟩⟩
 unfold uz at o
 cases e:fi ρ with
 | ok ds =>
  rw[e] at o
  intro J G vs H1 F1 gg W hG dq
  refine zjK W (fun k σ H=>∃ρ' F',Rl X.K cl H0 F0 ρ' σ H F'∧Same F1 F'∧OutS X.K cl E H0 F0 F' (forD i g (ds.drop k) ρ') Dn) ⟨ρ,F1,R.grow gg,Same.refl _,o.grow gg.ff⟩ (fun k σ' H' _ ⟨ρ',F',R',s',_⟩=>hG H' (s'.trans R'.fh)) ?_ ?_
  ·rintro k x σ' H' hx ⟨ρ',F',R',s',o'⟩
   obtain⟨d,hd,qd⟩:=dq.get hx
   have hdr:ds.drop k=d::ds.drop (k+1):=by
    obtain⟨hk,e2⟩:=List.getElem?_eq_some_iff.mp hd
    rw[List.drop_eq_getElem_cons hk,e2]
   rw[hdr] at o'
   unfold forD at o'
   refine ru H0 F0 _ _ H' F' _ (R'.set (qd.mono s')) ?_
   cases e2:g (ρ'.set i (.fz d)) with
   | nx ρ2=>simp only[e2] at o';exact fun σ2 H2 F2 R2 s2=>⟨ρ2,F2,R2,s'.trans s2,o'.grow s2⟩
   | ct ρ2=>simp only[e2] at o';exact fun σ2 H2 F2 R2 s2=>⟨ρ2,F2,R2,s'.trans s2,o'.grow s2⟩
   | bk ρ2=>simp only[e2] at o';exact o'
   | rt d=>simp only[e2] at o';exact o'
   | ex n=>simp only[e2] at o';exact o'
   | no=>simp only[e2] at o';exact o'
  ·rintro σ' H' ⟨ρ',F',R',s',o'⟩
   rw[List.drop_of_length_le (by rw[dq.length];exact Nat.le_refl _)] at o'
   exact o' σ' H' F' R' (Same.refl _)
 | ex n=>rw[e] at o;exact o
 | no=>rw[e] at o;exact o
end
end L2
namespace L2
open PySem PySem.Spec PyProof.Rows
def vY (n:Nat)(caps:List Nat)(ρ:Rho):Rho:=List.replicate n .no++caps.map fun i=>match ρ[i]? with|some (.fz d)=>.fz d|_=>.no
def wj:Rho→Rs Bool:=fun _=>.ok true
def vq (ft:Rho→Rs Bool)(fe:Rho→Rs D)(ρ0:Rho):List D→Rs (List D)
 | []=>.ok []
 | d::ds=>match ft (ρ0.set 0 (.fz d)) with
  | .ok true=>(match fe (ρ0.set 0 (.fz d)) with | .ok e=>(vq ft fe ρ0 ds).bind fun es=>.ok (e::es)|_=>.no)
  | .ok false=>vq ft fe ρ0 ds
  | _=>.no
def fCp (fi:Rho→Rs (List D))(ft:Rho→Rs Bool)(fe:Rho→Rs D)(caps:List Nat):Rho→Rs (List D):=fun ρ=>(fi ρ).bind fun ds=>if ds.length≤1000000 then vq ft fe (vY 1 caps ρ) ds else .no
def xN (fi:Rho→Rs (List D))(ft:Rho→Rs Bool)(fe:Rho→Rs D)(caps:List Nat):Rho→Rs D:=fun ρ=>(fCp fi ft fe caps ρ).bind fun es=>.ok (.lst es)
def XTs (X:Cx)(cl:Nat→Addr)(E:XK)(ifs:List Expr)(f:Rho→Rs Bool):Prop:=PTs X ifs (tDB X.K cl E f)
section
variable {X:Cx}{cl:Nat→Addr}{E:XK}
theorem wH:XTs X cl E [] wj:=fun pins s σ H Q I ⟨H0,F0,ρ,F,R,o⟩=>wpAny_tests_nil ⟨H,I,o H F (Gr.refl R.fh)⟩
theorem zcn {c:Expr}{f:Rho→Rs Bool}(h:XT X cl E c f):XTs X cl E [c] f:=fun pins s σ H Q I hq=>wpAny_tests_one (h pins s σ H Q I hq)
theorem jR {ft:Rho→Rs Bool}{fe:Rho→Rs D}{ρ0:Rho}:∀{ds:List D}{n:Nat},vq ft fe ρ0 ds≠.ex n
 | [],n=>fun h=>by cases h
 | d :: ds,n=>fun h=>by
  unfold vq at h
  split at h
  ·split at h
   ·cases e:vq ft fe ρ0 ds with
    | ok es=>rw[e] at h;cases h
    | ex m=>exact jR e
    | no=>rw[e] at h;cases h
   ·cases h
  ·exact jR h
  ·cases h
theorem Rl.cap {K:PySem.W.Frag}{H0 F0 H F:Hp}{ρ:Rho}{σ:St}(R:Rl K cl H0 F0 ρ σ H F)(own:List Str)(caps:List Nat):Rl K cl H F (vY own.length caps ρ) (zcD own caps σ) H F where
 gr:=Gr.refl R.fh
 len:=by simp[vY,zcD]
 fz := fun i d e=>by
  unfold vY at e
  unfold zcD
  rcases Nat.lt_or_ge i own.length with h|h
  ·rw[List.getElem?_append_left (by simpa using h),List.getElem?_replicate,if_pos h] at e
   cases e
  ·rw [List.getElem?_append_right (by simpa using h),List.length_replicate,List.getElem?_map] at e
   rw[List.getElem?_append_right (by simpa using h),List.length_map,List.getElem?_map]
   cases c:caps[i - own.length]? with
   | none=>rw[c] at e;cases e
   | some k =>
    rw[c] at e
    have e':=Option.some.inj e
    dsimp only at e'
    split at e'
    ·rename_i d' z
     injection e' with e'
     subst e'
     obtain⟨v,h1,h2⟩:=R.fz k _ z
     exact⟨v,by show some ((σ[k]?).getD none)=some (some v);rw[h1];rfl,h2⟩
    ·cases e'
 ow := fun i d e=>by
  unfold vY at e
  rcases Nat.lt_or_ge i own.length with h|h
  ·rw[List.getElem?_append_left (by simpa using h),List.getElem?_replicate,if_pos h] at e
   cases e
  ·rw [List.getElem?_append_right (by simpa using h),List.length_replicate,List.getElem?_map] at e
   cases c:caps[i - own.length]? with
   | none=>rw[c] at e;cases e
   | some k =>
    rw[c] at e
    have e':=Option.some.inj e
    dsimp only at e'
    split at e' <;>cases e'
 od := fun i d e=>by
  unfold vY at e
  rcases Nat.lt_or_ge i own.length with h|h
  ·rw[List.getElem?_append_left (by simpa using h),List.getElem?_replicate,if_pos h] at e
   cases e
  ·rw [List.getElem?_append_right (by simpa using h),List.length_replicate,List.getElem?_map] at e
   cases c:caps[i - own.length]? with
   | none=>rw[c] at e;cases e
   | some k =>
    rw[c] at e
    have e':=Option.some.inj e
    dsimp only at e'
    split at e' <;>cases e'
 ap := fun i j s t a z1 z2 o1 o2 e1 e2=>by
  exfalso
  unfold vY at z1
  rcases Nat.lt_or_ge i own.length with h|h
  ·rw[List.getElem?_append_left (by simpa using h),List.getElem?_replicate,if_pos h] at z1
   injection z1 with z1;subst z1;cases o1
  ·rw [List.getElem?_append_right (by simpa using h),List.length_replicate,List.getElem?_map] at z1
   cases c:caps[i - own.length]? with
   | none=>rw[c] at z1;cases z1
   | some k =>
    rw[c] at z1
    have e':=Option.some.inj z1
    dsimp only at e'
    split at e' <;>(subst e';cases o1)
theorem zlS {K:PySem.W.Frag}{H0 F0 H F:Hp}{ρ:Rho}{σ:St}{x:Str}{caps:List Nat}{ft:Rho→Rs Bool}{fe:Rho→Rs D}{ds es:List D}{J:It}{G:Hp→Prop}{vs:List V}{Fn:List V→Hp→Prop}(R:Rl K cl H0 F0 ρ σ H F)(W:Wlk J G vs)(hG:∀H'',Same F H''→G H'')(dq:Dts K cl F vs ds)(hl:ds.length≤1000000)
  (hc:vq ft fe (vY 1 caps ρ) ds=.ok es) (k:∀ys H' F',Gr F H F' H'→Dts K cl F' ys es→Fn ys H'):jz (qx 0) (tDB K cl E0 ft) (tDE K cl E0 fe) (zcD [x] caps σ) Fn J H:=by
 have hz:vs.length≤sizeLine:=sz6 (dq.length▸hl)
 refine zgs W hz (fun i ys H'=>∃F' es1 es2,Gr F H F' H'∧Dts K cl F' ys es1∧ys.length≤i∧es=es1++es2∧vq ft fe (vY 1 caps ρ) (ds.drop i)=.ok es2) ⟨F,[],es,Gr.refl R.fh,.nil,Nat.le_refl _,rfl,hc⟩ (fun i ys H' _ ⟨F',_,_,g,_,h1,_⟩=>⟨hG H' (g.ff.trans g.fh),h1⟩) ?_ ?_
 ·rintro i v ys H' hv ⟨F',es1,es2,g,q1,hly,rfl,hc'⟩
  obtain⟨d,hd,qd⟩:=dq.get hv
  have hdr:ds.drop i=d::ds.drop (i+1):=by
   obtain⟨hk,e2⟩:=List.getElem?_eq_some_iff.mp hd
   rw[List.drop_eq_getElem_cons hk,e2]
  rw[hdr] at hc'
  unfold vq at hc'
  have R1:=(R.grow g).cap [x] caps
  have R2:Rl K cl H' F' ((vY 1 caps ρ).set 0 (.fz d)) ((zcD [x] caps σ).set 0 (some v)) H' F':=R1.set (qd.mono g.ff)
  refine⟨Kps.set rfl,H',F',_,F',R2,?_⟩
  cases e1:ft ((vY 1 caps ρ).set 0 (.fz d)) with
  | ok b =>
   rw[e1] at hc'
   intro H2 F2 g2
   cases b with
   | true =>
    rw[if_pos rfl]
    cases e2:fe ((vY 1 caps ρ).set 0 (.fz d)) with
    | ok e =>
     simp only[e2] at hc'
     refine⟨H',F',_,F2,R2.grow g2,?_⟩
     rw[e2]
     intro y H3 F3 g3 qy
     cases e3:vq ft fe (vY 1 caps ρ) (ds.drop (i+1)) with
     | ok es3 =>
      rw[e3] at hc'
      injection hc' with hc'
      exact⟨F3,es1++[e],es3,g.trans (g2.trans g3),(q1.mono (g2.ff.trans g3.ff)).append (.cons qy .nil),by simp;exact hly,by rw[← hc',List.append_assoc];rfl,rfl⟩
     | ex n=>rw[e3] at hc';cases hc'
     | no=>rw[e3] at hc';cases hc'
    | ex n=>simp only[e2] at hc';cases hc'
    | no=>simp only[e2] at hc';cases hc'
   | false =>
    rw[if_neg Bool.false_ne_true]
    exact⟨F2,es1,es2,g.trans g2,q1.mono g2.ff,Nat.le_succ_of_le hly,rfl,hc'⟩
  | ex n=>rw[e1] at hc';cases hc'
  | no=>rw[e1] at hc';cases hc'
 ·rintro ys H' ⟨F',es1,es2,g,q1,hly,rfl,hc'⟩
  rw[List.drop_of_length_le (by rw[dq.length];exact Nat.le_refl _)] at hc'
  injection hc' with hc'
  rw[← hc',List.append_nil] at k
  exact k ys H' F' g q1
variable {scope:Scope}{x:Str}{caps:List Nat}{elt tg iter:Expr}{ifs:List Expr}{fi:Rho→Rs (List D)}{ft:Rho→Rs Bool}{fe:Rho→Rs D}{pos:Pos}
structure CompD (X:Cx)(cl:Nat→Addr)(scope:Scope)(x:Str)(caps:List Nat)(tg:Expr)(ifs:List Expr)(elt:Expr)(ft:Rho→Rs Bool)(fe:Rho→Rs D):Prop where
 tgt:∀pins C ex s H,PG (cxC X pins scope [x] caps C ex s H) tg (qx 0)
 tst:∀pins C ex s H,XTs (cxC X pins scope [x] caps C ex s H) cl E0 ifs ft
 elm:∀pins C ex s H,XE (cxC X pins scope [x] caps C ex s H) cl E0 elt fe
theorem CompD.ci (h:CompD X cl scope x caps tg ifs elt ft fe):CompIn X scope [x] caps tg ifs elt (qx 0) (tDB X.K cl E0 ft) (tDE X.K cl E0 fe):=⟨h.tgt,h.tst,h.elm⟩
theorem OutI.comp {K:PySem.W.Frag}{H0 F0 H F:Hp}{ρ:Rho}{σ:St}{P:List V→Hp→Prop}(R:Rl K cl H0 F0 ρ σ H F)(o:OutA K cl E H0 F H (fCp fi ft fe caps ρ) P):OutI K cl E H0 F H (fi ρ) fun J H1=>jz (qx 0) (tDB K cl E0 ft) (tDE K cl E0 fe) (zcD [x] caps σ) P J H1:=by
 unfold fCp at o
 cases e:fi ρ with
 | ok ds =>
  rw[e] at o
  have o1:OutA K cl E H0 F H (if ds.length≤1000000 then vq ft fe (vY 1 caps ρ) ds else .no) P:=o
  intro J G vs H1 F1 g W hG dq
  split at o1
  ·rename_i hl
   cases e2:vq ft fe (vY 1 caps ρ) ds with
   | ok es=>rw[e2] at o1;exact zlS (R.grow g) W hG dq hl e2 fun ys H' F' g' q=>o1 ys H' F' (g.trans g') q
   | ex n=>exact absurd e2 jR
   | no=>rw[e2] at o1;exact o1.elim
  ·exact o1.elim
 | ex n=>rw[e] at o;exact o
 | no=>rw[e] at o;exact o
theorem wZ (ok:CompOk X scope caps)(hc:X.calm=true)(hi:XI X cl E tg iter fi)(CI:CompD X cl scope x caps tg ifs elt ft fe)(hs:∀x,foldedSetIterable iter X.env x=pure x:=by intro _;rfl):XE X cl E (.ListComp elt [⟨tg,iter,ifs,0⟩] scope pos) (xN fi ft fe caps):=by
 refine XE'.out ⟨_,zdV ok hc hi CI.ci hs,fun H0 F0 ρ σ H F Q R o=>⟨H0,F0,ρ,F,R,OutI.comp R ?_⟩⟩
 refine OutA.fst o fun es ys H' F' g q o1=>?_
 intro p hp
 have fh:=(R.grow g).fh
 exact o1 _ _ _ (Gr.new fh hp) (.lst (.inl (.inl yg)) (q.mono (Same.upd (fh.free hp))))
def vJ (j:Nat)(fs:Rho→Rs (List D)):Rho→Out:=fun ρ=>match fs ρ with | .ok es=>.nx (ρ.set j (.fz (.lst es))) | .ex n=>.ex n | .no=>.no
def vU (j:Nat)(fs:Rho→Rs (List D)):Rho→Out:=fun ρ=>match fs ρ with | .ok es=>.nx (ρ.set j (.ow es)) | .ex n=>.ex n | .no=>.no
theorem zdL {j:Nat}{y:Str}{py spos:Pos}(hN:X.N.Nodup)(hj:X.N[j]? = some y)(hy:X.env.scope.names.lookup y=some .local)(ok:CompOk X scope caps)(hc:X.calm=true)(hi:XI X cl E tg iter fi)(CI:CompD X cl scope x caps tg ifs elt ft fe)
  (hsw:swapsWith (.ListComp elt [⟨tg,iter,ifs,0⟩] scope pos) (some (.Name y py)) spos.line X.env=pure true) (hs:∀x,foldedSetIterable iter X.env x=pure x:=by intro _;rfl):XS X cl E (.Assign [.Name y py] (.ListComp elt [⟨tg,iter,ifs,0⟩] scope pos) spos) (vJ j (fCp fi ft fe caps)):=by
 refine XS'.out ⟨_,zgE hN hj hy ok hc hi CI.ci hsw hs,fun H0 F0 ρ σ H F Dn R o=>⟨H0,F0,ρ,F,R,OutI.comp R ?_⟩⟩
 unfold vJ at o
 cases e:fCp fi ft fe caps ρ with
 | ok es =>
  rw[e] at o
  intro ys H' F' g q p hp
  have fh:=(R.grow g).fh
  have g2:Gr F' H' (upd F' p (.lst ys)) (upd H' p (.lst ys)):=Gr.new fh hp
  exact o _ _ _ (((R.grow g).grow g2).set (.lst (.inl (.inl yg)) (q.mono g2.ff))) (g.ff.trans g2.ff)
 | ex n=>rw[e] at o;exact o
 | no=>rw[e] at o;exact o
theorem zhO {j:Nat}{y:Str}{py spos:Pos}(hN:X.N.Nodup)(hj:X.N[j]? = some y)(hy:X.env.scope.names.lookup y=some .local)(ok:CompOk X scope caps)(hc:X.calm=true)(hi:XI X cl E tg iter fi)(CI:CompD X cl scope x caps tg ifs elt ft fe)
  (hsw:swapsWith (.ListComp elt [⟨tg,iter,ifs,0⟩] scope pos) (some (.Name y py)) spos.line X.env=pure true) (hs:∀x,foldedSetIterable iter X.env x=pure x:=by intro _;rfl):XS X cl E (.Assign [.Name y py] (.ListComp elt [⟨tg,iter,ifs,0⟩] scope pos) spos) (vU j (fCp fi ft fe caps)):=by
 refine XS'.out ⟨_,zgE hN hj hy ok hc hi CI.ci hsw hs,fun H0 F0 ρ σ H F Dn R o=>⟨H0,F0,ρ,F,R,OutI.comp R ?_⟩⟩
 unfold vU at o
 cases e:fCp fi ft fe caps ρ with
 | ok es =>
  rw[e] at o
  intro ys H' F' g q p hp
  exact o _ _ _ ((R.grow g).setO hp q) g.ff
 | ex n=>rw[e] at o;exact o
 | no=>rw[e] at o;exact o
end
end L2
namespace L2
open PySem PySem.Spec PyProof.Rows
def Fn1 (K:PySem.W.Frag)(cl:Nat→Addr)(r:List V→Hp→VK→Prop)(g:List D→Option D):Prop :=
 ∀(F H:Hp) (vs:List V) (ds:List D) (d:D) (Q:VK),Same F H→Dts K cl F vs ds→g ds=some d→(∀v H' F',Gr F H F' H'→Dt K cl F' v d→Q v H')→r vs H Q
def vd:List D→Option D
 | [.str l]=>some (.int l.length)
 | [.lst l]=>some (.int l.length)
 | [.tup l]=>some (.int l.length)
 | _=>none
def unB:D→Bool
 | .bl b=>b
 | _=>false
def isB:D→Bool
 | .bl _=>true
 | _=>false
def unS:D→List Nat
 | .str l=>l
 | _=>[]
def isS:D→Bool
 | .str _=>true
 | _=>false
def zkv:List D→Option D
 | [.lst ds]=>if ds.all isB=true then some (.bl (ds.all unB)) else none
 | _=>none
def zlA:List D→Option D
 | [.lst ds]=>if ds.all isB=true then some (.bl (ds.any unB)) else none
 | _=>none
def zhg (ds:List D):Option (List D):=if ds.all isS=true∧ds.length<64 then some ((My.sortF (ds.map unS)).map .str) else none
def zgr:List D→Option (List D)
 | [.lst ds]=>zhg ds
 | [.tup ds]=>zhg ds
 | _=>none
def zmT:List D→Option D
 | [.lst ds]=>some (.tup ds)
 | [.tup ds]=>some (.tup ds)
 | _=>none
def wz:D→D→Option D
 | .str l,.str m=>some (.bl (m.isPrefixOf l))
 | _,_=>none
def za5:D→D→Option D
 | .str [],.lst ds=>if ds.all isS=true∧(ds.map unS).flatten.length≤1000000 then some (.str (ds.map unS).flatten) else none
 | _,_=>none
def zbG (g:PyData→Bool)(d:D):Option D:=if d.pl=true then some (.bl (g d.py)) else none
def isInt:PyData→Bool:=fun d=>match d with | .int _=>true | .bool _=>true|_=>false
def isBool:PyData→Bool:=fun d=>match d with | .bool _=>true|_=>false
def isStr:PyData→Bool:=fun d=>match d with | .str _=>true|_=>false
def isTup:PyData→Bool:=fun d=>match d with | .tuple _=>true|_=>false
section
variable {K:PySem.W.Frag}{cl:Nat→Addr}{F H:Hp}
theorem Dts.bools:∀{vs:List V}{ds:List D},Dts K cl F vs ds→ds.all isB=true→vs=(ds.map unB).map V.bl
 | _,_,.nil,_=>rfl
 | _,_,.cons q r,h=>by
  rw[List.all_cons,Bool.and_eq_true] at h
  have:=Dts.bools r h.2
  cases q <;>simp[isB] at h
  rw[this];rfl
theorem Dts.texts:∀{vs:List V}{ds:List D},Dts K cl F vs ds→ds.all isS=true→vs=vT (ds.map unS)∧(∀x∈ds.map unS,TxtOk (T x))∧ds=(ds.map unS).map .str
 | _,_,.nil,_=>⟨rfl,by simp,rfl⟩
 | _,_,.cons q r,h=>by
  rw[List.all_cons,Bool.and_eq_true] at h
  obtain⟨e1,e2,e3⟩:=Dts.texts r h.2
  cases q with
  | str l ok =>
   refine⟨by rw[e1];rfl,fun x hx=>?_,by rw[List.map_cons,List.map_cons,← e3];rfl⟩
   rw[List.map_cons] at hx
   rcases List.mem_cons.mp hx with rfl|hx
   ·exact ok
   ·exact e2 x hx
  | _=>simp[isS] at h
theorem zg3 {ls:List (List Nat)}(h:∀x∈ls,TxtOk (T x)):Dts K cl F (vT ls) (ls.map .str):=zaV fun x hx=>.str x (h x hx)
theorem n_len:Fn1 K cl (fun xs H Q=>∃x n,xs=[x]∧zm1 K x H n∧Q (.int n) H) vd:=fun F H vs ds d Q s q e k=>by
 match ds,q,e with
 | [.str l],q,e =>
  obtain⟨v,rfl,q1⟩:=q.one
  obtain rfl:=Option.some.inj e
  cases q1 with
  | str l ok=>exact⟨_,l.length,rfl,⟨sz6 ok.2,(zax l).symm⟩,k _ _ _ (Gr.refl s) (.int _)⟩
 | [.lst l],q,e =>
  obtain⟨v,rfl,q1⟩:=q.one
  obtain rfl:=Option.some.inj e
  cases q1 with
  | lst sq dq=>exact⟨_,l.length,rfl,.inl ⟨_,s.seq sq,dq.length.symm⟩,k _ _ _ (Gr.refl s) (.int _)⟩
 | [.tup l],q,e =>
  obtain⟨v,rfl,q1⟩:=q.one
  obtain rfl:=Option.some.inj e
  cases q1 with
  | tup sq dq=>exact⟨_,l.length,rfl,.inr ⟨_,s.seqT sq,dq.length.symm⟩,k _ _ _ (Gr.refl s) (.int _)⟩
theorem n_all:Fn1 K cl (fun xs H Q=>∃(a:Addr) (bs:List Bool),xs=[.ref a]∧SqL K H a (bs.map V.bl)∧Q (.bl (bs.all id)) H) zkv:=fun F H vs ds d Q s q e k=>by
 match ds,q,e with
 | [.lst l],q,e =>
  obtain⟨v,rfl,q1⟩:=q.one
  dsimp only [zkv] at e
  split at e
  ·rename_i h
   obtain rfl:=Option.some.inj e
   cases q1 with
   | lst sq dq =>
    rw[dq.bools h] at sq
    refine⟨_,_,rfl,s.seq sq,?_⟩
    have:=k _ _ _ (Gr.refl s) (.bl (l.all unB))
    rwa [List.all_map]
  ·cases e
theorem n_any:Fn1 K cl (fun xs H Q=>∃(a:Addr) (bs:List Bool),xs=[.ref a]∧SqL K H a (bs.map V.bl)∧Q (.bl (bs.any id)) H) zlA:=fun F H vs ds d Q s q e k=>by
 match ds,q,e with
 | [.lst l],q,e =>
  obtain⟨v,rfl,q1⟩:=q.one
  dsimp only [zlA] at e
  split at e
  ·rename_i h
   obtain rfl:=Option.some.inj e
   cases q1 with
   | lst sq dq =>
    rw[dq.bools h] at sq
    refine⟨_,_,rfl,s.seq sq,?_⟩
    have:=k _ _ _ (Gr.refl s) (.bl (l.any unB))
    rwa [List.any_map]
  ·cases e
theorem zms:Fn1 K cl (fun xs H Q=>∃p ys,xs=[.ref p]∧((SqL K H p ys∧∀l,H l=none→Q (.ref l) (upd H l (.tup ys)))∨(SqT K H p ys∧Q (.ref p) H))) zmT:=fun F H vs ds d Q s q e k=>by
 match ds,q,e with
 | [.lst l],q,e =>
  obtain⟨v,rfl,q1⟩:=q.one
  obtain rfl:=Option.some.inj e
  cases q1 with
  | lst sq dq=>exact⟨_,_,rfl,.inl ⟨s.seq sq,fun p hp=>k _ _ _ (Gr.new s hp) (.tup (.inl (.inl yg)) (dq.mono (Same.upd (s.free hp))))⟩⟩
 | [.tup l],q,e =>
  obtain⟨v,rfl,q1⟩:=q.one
  obtain rfl:=Option.some.inj e
  cases q1 with
  | tup sq dq=>exact⟨_,_,rfl,.inr ⟨s.seqT sq,k _ _ _ (Gr.refl s) (.tup sq dq)⟩⟩
end
section
variable {X:Cx}{cl:Nat→Addr}{E:XK}{e o:Expr}{es:List Expr}{fa fb:Rho→Rs D}{fs:Rho→Rs (List D)}{x:Str}{p pos:Pos}
theorem zO {id:String}{r:List V→Hp→VK→Prop}{g:List D→Option D}(hc:qR X (.builtin id) r)(hF:Fn1 X.K cl r g)(hg:Gl X x)(hm:X.mg x=none)(hv:bootBuiltins x=some (.builtin id))(ha:XA X cl E (e::es) fs)(he:starEach (e::es) X.env=(false,eval e X.env)::starEach es X.env)(hn:x ≠ "__name__" := by decide)(hdb:(x == ("__debug__" : Str))=false:=by decide)(hpl:(backTo pos (starEach es X.env)).any (·.1)=false:=by rfl):XE X cl E (.Call (.Name x p) (e::es) [] pos) (fO g fs):=by
 obtain⟨t,pt,rt⟩:=ha.ex
 refine XE'.out ⟨_,ju hc hg hm hv pt hn hdb he hpl,fun H0 F0 ρ σ H F Q R o=>rt H0 F0 ρ σ H F _ R (OutA.fst o fun ds vs H1 F1 g1 q o1=>?_)⟩
 obtain⟨z,hz,k⟩:=o1.lf
 exact hF F1 H1 vs ds z _ (R.grow g1).fh q hz k
theorem zaQ {T:String}{r:List V→Hp→VK→Prop}{g:List D→Option D}(hc:qR X (.type T) r)(hF:Fn1 X.K cl r g)(hg:Gl X x)(hm:X.mg x=none)(hv:bootBuiltins x=some (.type T))(ha:XA X cl E (e::es) fs)(he:starEach (e::es) X.env=(false,eval e X.env)::starEach es X.env)(hn:x ≠ "__name__" := by decide)(hdb:(x == ("__debug__" : Str))=false:=by decide)(hpl:(backTo pos (starEach es X.env)).any (·.1)=false:=by rfl):XE X cl E (.Call (.Name x p) (e::es) [] pos) (fO g fs):=by
 obtain⟨t,pt,rt⟩:=ha.ex
 refine XE'.out ⟨_,zfS hc hg hm hv pt hn hdb he hpl,fun H0 F0 ρ σ H F Q R o=>rt H0 F0 ρ σ H F _ R (OutA.fst o fun ds vs H1 F1 g1 q o1=>?_)⟩
 obtain⟨z,hz,k⟩:=o1.lf
 exact hF F1 H1 vs ds z _ (R.grow g1).fh q hz k
theorem zdc {n:String}{b:Expr}{g:PyData→Bool}(hk:∀d,PySem.W.kitOne X.K (.type (tyN d)) (.type n)=some (g d))(hg:Gl X "isinstance")(hm:X.mg "isinstance" = none)(ha:XE X cl E e fa)(hb:PE X b (tC (.ty n)))(h1:starEach [e,b] X.env=(false,eval e X.env)::starEach [b] X.env)(h2:starEach [b] X.env=(false,eval b X.env)::starEach [] X.env:=by rfl)(hpl:(backTo pos (starEach [b] X.env)).any (·.1)=false:=by rfl):XE X cl E (.Call (.Name "isinstance" p) [e,b] [] pos) (f1 (zbG g) fa):=by
 obtain⟨t,pt,rt⟩:=ha.ex
 refine XE'.out ⟨_,ju zdu hg hm boot_isinstance (wA pt (wA hb uX h2) h1) (by decide) (by decide) h1 hpl,fun H0 F0 ρ σ H F Q R o=>rt H0 F0 ρ σ H F _ R (OutE.fst o fun d v H1 F1 g1 q o1=>?_)⟩
 obtain⟨z,hz,k⟩:=o1.lf
 unfold zbG at hz
 split at hz
 ·rename_i hp
  obtain rfl:=Option.some.inj hz
  have fh:=(R.grow g1).fh
  exact⟨v,d.py,n,g d.py,rfl,(q.is hp).mono fh,hk _,k _ _ _ (Gr.refl fh) (.bl _)⟩
 ·cases hz
def fM (chk:D→Bool)(g:D→D→Option D)(fa fb:Rho→Rs D):Rho→Rs D:=fun ρ=>(fa ρ).bind fun a=>if chk a=true then(fb ρ).bind fun b=>lf (g a b) else .no
structure Mth (X:Cx)(o e:Expr)(name:Str)(apos cpos:Pos):Prop where
 hs:starEach [e] X.env=(false,eval e X.env)::starEach [] X.env
 base:attributeBase o name X.env (eval o X.env)=eval o X.env
 few:((backTo cpos (starEach [e] X.env)).all (fun x=>!x.1)&&(backToKw cpos (keywordEach [] X.env)).all (fun x=>x.1.isSome)&&decide (([e]:List Expr).length+([]:List Keyword).length+(if ([]:List Keyword).isEmpty then 0 else 1)<30))=true
 line:(apos.endLine == cpos.line)=true
 plain:(backTo cpos (starEach [] X.env)).any (·.1)=false
theorem jM {apos cpos:Pos}(ho:XE X cl E o fa)(ha:XE X cl E e fb)(m:Mth X o e "startswith" apos cpos):XE X cl E (.Call (.Attribute o "startswith" apos) [e] [] cpos) (fM isS wz fa fb):=by
 obtain⟨t,pt,rt⟩:=ho.ex
 obtain⟨u,pu,ru⟩:=ha.ex
 refine XE'.out ⟨_,zd8 PySem.F.plainAttrs_str PySem.F.slot_str_startswith PySem.F.type_str_startswith zfF pt (wA pu uX m.hs) m.base m.few m.line m.hs m.plain,fun H0 F0 ρ σ H F Q R o=>rt H0 F0 ρ σ H F _ R (OutE.fst o fun d v H1 F1 g1 q o1=>?_)⟩
 split at o1
 ·rename_i hd
  cases q with
  | str l ok =>
   refine⟨rfl,ru H0 F0 ρ σ H1 F1 _ (R.grow g1) (OutE.fst o1 fun d2 v2 H2 F2 g2 q2 o2=>?_)⟩
   obtain⟨z,hz,k⟩:=o2.lf
   cases q2 with
   | str m ok2 =>
    obtain rfl:=Option.some.inj hz
    exact⟨l,m,rfl,rfl,k _ _ _ (Gr.refl (R.grow (g1.trans g2)).fh) (.bl _)⟩
   | _=>cases hz
  | _=>cases hd
 ·exact o1.elim
theorem zdF {apos cpos:Pos}(ho:XE X cl E o fa)(ha:XE X cl E e fb)(m:Mth X o e "join" apos cpos):XE X cl E (.Call (.Attribute o "join" apos) [e] [] cpos) (fM isS za5 fa fb):=by
 obtain⟨t,pt,rt⟩:=ho.ex
 obtain⟨u,pu,ru⟩:=ha.ex
 refine XE'.out ⟨_,zd8 PySem.F.plainAttrs_str PySem.F.slot_str_join PySem.F.type_str_join zjG pt (wA pu uX m.hs) m.base m.few m.line m.hs m.plain,fun H0 F0 ρ σ H F Q R o=>rt H0 F0 ρ σ H F _ R (OutE.fst o fun d v H1 F1 g1 q o1=>?_)⟩
 split at o1
 ·rename_i hd
  cases q with
  | str l ok =>
   refine⟨rfl,ru H0 F0 ρ σ H1 F1 _ (R.grow g1) (OutE.fst o1 fun d2 v2 H2 F2 g2 q2 o2=>?_)⟩
   obtain⟨z,hz,k⟩:=o2.lf
   cases q2 with
   | lst sq dq =>
    rename_i ds
    match l,hz with
    | [],hz =>
     dsimp only [za5] at hz
     split at hz
     ·rename_i h
      obtain rfl:=Option.some.inj hz
      obtain⟨e1,e2,e3⟩:=dq.texts h.1
      have fh:=(R.grow (g1.trans g2)).fh
      rw[e1] at sq
      refine⟨_,ds.map unS,rfl,rfl,fh.seq sq,h.2,k _ _ _ (Gr.refl fh) (.str _ (uV (fun c hc=>?_) h.2))⟩
      obtain⟨y,hy,hc⟩:=List.mem_flatten.mp hc
      have a:(T y).cps.all (· < 0x110000)=true:=(e2 y hy).1
      simp only[T,List.all_toArray,List.all_eq_true,decide_eq_true_eq] at a
      exact a c hc
     ·cases hz
    | _::_,hz=>cases hz
   | _=>cases l <;>cases hz
  | _=>cases hd
 ·exact o1.elim
theorem qL {a b:Expr}(ha:XE X cl E a fa)(hb:XE X cl E b fb)(hs:zgY b):XE X cl E (.Subscript a b pos) (f2 ixD fa fb):=by
 obtain⟨t,pt,rt⟩:=ha.ex
 obtain⟨u,pu,ru⟩:=hb.ex
 refine XE'.out ⟨_,zmG zkV pt pu hs,fun H0 F0 ρ σ H F Q R o=>rt H0 F0 ρ σ H F _ R (OutE.fst o fun d v H1 F1 g1 q o1=>?_)⟩
 refine ru H0 F0 ρ σ H1 F1 _ (R.grow g1) (OutE.fst o1 fun e w H2 F2 g2 q2 o2=>?_)
 obtain⟨z,hz,k⟩:=o2.lf
 exact znj F2 H2 v w d e z _ (R.grow (g1.trans g2)).fh (q.mono g2.ff) q2 hz k
def yF:Rho→Rs (Option Int):=fun _=>.ok none
def zY (f:Rho→Rs D):Rho→Rs (Option Int):=fun ρ=>(f ρ).bind fun d=>match d with | .int i=>.ok (some i)|_=>.no
theorem vW:XO' X cl E none yF:=⟨_,zjM,fun H0 F0 ρ σ H F Q R o=>o H F (Gr.refl R.fh)⟩
theorem wI (h:XE X cl E e fa):XO' X cl E (some e) (zY fa):=by
 obtain⟨t,pt,rt⟩:=h.ex
 refine⟨_,zkj pt,fun H0 F0 ρ σ H F Q R o=>rt H0 F0 ρ σ H F _ R ?_⟩
 unfold zY at o
 cases e:fa ρ with
 | ok d =>
  rw[e] at o
  intro v H' F' g q
  cases q with
  | int i=>exact⟨i,rfl,o H' F' g⟩
  | _=>exact o.elim
 | ex n=>rw[e] at o;exact o
 | no=>rw[e] at o;exact o
def fSl (fa:Rho→Rs D)(fl fh:Rho→Rs (Option Int)):Rho→Rs D:=fun ρ=>(fa ρ).bind fun a=>(fl ρ).bind fun l=>(fh ρ).bind fun h=>lf (slD a l h)
theorem zhv {α:Type}(xs:List α)(lo hi:Option Int):(zap xs lo hi).length≤xs.length:=by
 unfold zap
 rw[List.length_take,List.length_drop];omega
theorem Dts.cut {K:PySem.W.Frag}{F:Hp}{vs:List V}{ds:List D}(q:Dts K cl F vs ds)(lo hi:Option Int):Dts K cl F (zge vs lo hi) (zap ds lo hi):=by
 unfold zge zap
 rw[q.length]
 exact(q.drop _).take _
theorem xT {lo hi:Option Expr}{p2:Pos}{fl fh:Rho→Rs (Option Int)}(ha:XE X cl E e fa)(hl:XO' X cl E lo fl)(hh:XO' X cl E hi fh):XE X cl E (.Subscript e (.Slice lo hi none p2) pos) (fSl fa fl fh):=by
 obtain⟨t,pt,rt⟩:=ha.ex
 obtain⟨u,pu,ru⟩:=hl
 obtain⟨w,pw,rw'⟩:=hh
 refine XE'.out ⟨_,zir (SlR.or zj6 (SlR.or zjR zkz)) pt pu pw,fun H0 F0 ρ σ H F Q R o=>rt H0 F0 ρ σ H F _ R (OutE.fst o fun d v H1 F1 g1 q o1=>?_)⟩
 refine ru H0 F0 ρ σ H1 F1 _ (R.grow g1) ?_
 cases e1:fl ρ with
 | ok l =>
  rw[e1] at o1
  intro H2 F2 g2
  refine rw' H0 F0 ρ σ H2 F2 _ ((R.grow g1).grow g2) ?_
  cases e2:fh ρ with
  | ok h =>
   rw[e2] at o1
   intro H3 F3 g3
   have o3:OutE X.K cl E H0 F3 H3 (lf (slD d l h)) Q:=OutE.grow o1 (g2.trans g3)
   obtain⟨z,hz,k⟩:=o3.lf
   have fh:=(((R.grow g1).grow g2).grow g3).fh
   have q3:=q.mono (g2.trans g3).ff
   cases q3 with
   | lst sq dq =>
    obtain rfl:=Option.some.inj hz
    refine .inl ⟨_,_,rfl,fh.seq sq,fun p hp=>k _ _ _ (Gr.new fh hp) (.lst (.inl (.inl yg)) ((dq.cut l h).mono (Same.upd (fh.free hp))))⟩
   | tup sq dq =>
    obtain rfl:=Option.some.inj hz
    refine .inr (.inl ⟨_,_,rfl,fh.seqT sq,fun p H' hs qq=>?_⟩)
    obtain⟨F',g,q'⟩:=Gr.tup fh hs qq (dq.cut l h)
    exact k _ _ _ g q'
   | str ls ok =>
    obtain rfl:=Option.some.inj hz
    refine .inr (.inr ⟨_,rfl,sz6 ok.2,?_⟩)
    rw[jL,zax]
    refine k _ _ _ (Gr.refl fh) (.str (zap ls l h) (zf1 ok (fun c hc=>?_) (Nat.le_trans (zhv _ _ _) (by have:=ok.2;rw[zax] at this;exact this))))
    exact List.mem_of_mem_drop (List.mem_of_mem_take hc)
   | _=>cases hz
  | ex n=>rw[e2] at o1;exact o1
  | no=>rw[e2] at o1;exact o1
 | ex n=>rw[e1] at o1;exact o1
 | no=>rw[e1] at o1;exact o1
end
end L2
namespace L2
open PySem PySem.Spec PyProof.Rows
def XL (X:Cx)(cl:Nat→Addr)(E:XK)(e:Expr)(f:Rho→Rs (List D)):Prop :=
 ∃t:TE,PE X e t∧∀(H0 F0:Hp) (ρ:Rho) (σ:St) (H F:Hp) (Q:VK),Rl X.K cl H0 F0 ρ σ H F→OutA X.K cl E H0 F H (f ρ) (fun vs H1=>∀p,H1 p=none→Q (.ref p) (upd H1 p (.lst vs)))→t σ H Q
def fLs (f:Rho→Rs (List D)):Rho→Rs D:=fun ρ=>(f ρ).bind fun ds=>.ok (.lst ds)
section
variable {X:Cx}{cl:Nat→Addr}{E:XK}{e o:Expr}{es:List Expr}{fa fb:Rho→Rs D}{fs:Rho→Rs (List D)}{x:Str}{p pos:Pos}
theorem XL.xe (h:XL X cl E e fs):XE X cl E e (fLs fs):=by
 obtain⟨t,pt,rt⟩:=h
 refine XE'.out ⟨_,pt,fun H0 F0 ρ σ H F Q R o=>rt H0 F0 ρ σ H F _ R (OutA.fst o fun ds vs H1 F1 g q o1=>fun p hp=>?_)⟩
 have fh:=(R.grow g).fh
 exact o1 _ _ _ (Gr.new fh hp) (.lst (.inl (.inl yg)) (q.mono (Same.upd (fh.free hp))))
def lf' {α:Type}:Option α→Rs α
 | some d=>.ok d
 | none=>.no
def fL (g:List D→Option (List D))(fs:Rho→Rs (List D)):Rho→Rs (List D):=fun ρ=>(fs ρ).bind fun as=>lf' (g as)
def fL2 (g:D→D→Option (List D))(fa fb:Rho→Rs D):Rho→Rs (List D):=fun ρ=>(fa ρ).bind fun a=>(fb ρ).bind fun b=>lf' (g a b)
theorem OutA.lf {K:PySem.W.Frag}{H0 F H:Hp}{o:Option (List D)}{Q:List V→Hp→Prop}(h:OutA K cl E H0 F H (lf' o) Q):∃d,o=some d∧∀v H' F',Gr F H F' H'→Dts K cl F' v d→Q v H':=by
 cases o with
 | none=>exact h.elim
 | some d=>exact⟨d,rfl,h⟩
def szL (ds:List D):Option (List D):=if ds.length≤1000000 then some ds else none
theorem zgI (h:XA X cl E es fs):XL X cl E (.List es pos) (fL szL fs):=by
 obtain⟨t,pt,rt⟩:=h.ex
 refine⟨_,ziB pt,fun H0 F0 ρ σ H F Q R o=>rt H0 F0 ρ σ H F _ R (OutA.fstA o fun ds vs H1 F1 g q o1=>?_)⟩
 obtain⟨z,hz,k⟩:=o1.lf
 unfold szL at hz
 split at hz
 ·rename_i hl
  obtain rfl:=Option.some.inj hz
  exact⟨sz6 (q.length▸hl),fun p hp=>k vs H1 F1 (Gr.refl (R.grow g).fh) q p hp⟩
 ·cases hz
def zf8:D→D→Option (List D)
 | .lst l,.lst m=>if l.length+m.length≤1000000 then some (l++m) else none
 | _,_=>none
theorem zbE {K:PySem.W.Frag}{F H:Hp}{a:Addr}{vs:List V}{ds z:List D}{Q:List V→Hp→Prop}(fh:Same F H)(dq:Dts K cl F vs ds)(hz:zhg ds=some z)(k:∀v H' F',Gr F H F' H'→Dts K cl F' v z→Q v H'):vs=vT (ds.map unS)∧(ds.map unS).length<64∧∀ms,ms.Perm (ds.map unS)→Srt ms→Q (vT ms) H:=by
 unfold zhg at hz
 split at hz
 ·rename_i h
  obtain rfl:=Option.some.inj hz
  obtain⟨e1,e2,e3⟩:=dq.texts h.1
  refine⟨e1,by rw[List.length_map];exact h.2,fun ms pm sm=>?_⟩
  obtain rfl:=My.sortF_eq sm pm
  exact k _ _ _ (Gr.refl fh) (zg3 fun y hy=>e2 y (My.sortF_mem.mp hy))
 ·cases hz
theorem zf9 (hg:Gl X "sorted")(hm:X.mg "sorted" = none)(hv:bootBuiltins "sorted" = some (.builtin "sorted"))(h:XE X cl E e fa)(hs:starEach [e] X.env=(false,eval e X.env)::starEach [] X.env)(hpl:(backTo pos (starEach [] X.env)).any (·.1)=false:=by rfl):XL X cl E (.Call (.Name "sorted" p) [e] [] pos) (fL zgr (zb fa zA)):=by
 obtain⟨t,pt,rt⟩:=(zc h zu hs).ex
 have hc:qR X (.builtin "sorted") (fun xs H Q=>(∃a ls,xs=[.ref a]∧SqL X.K H a (vT ls)∧ls.length<64∧∀p ms,H p=none→ms.Perm ls→Srt ms→Q (.ref p) (upd H p (.lst (vT ms))))∨(∃a ls,xs=[.ref a]∧SqT X.K H a (vT ls)∧ls.length<64∧∀p ms,H p=none→ms.Perm ls→Srt ms→Q (.ref p) (upd H p (.lst (vT ms))))):=fun pins s σ H xs us Q I r q=>by
  rcases q with q|q
  ·exact zc9 pins s σ H xs us Q I r q
  ·exact zcT pins s σ H xs us Q I r q
 refine⟨_,ju hc hg hm hv pt (by decide) (by decide) hs hpl,fun H0 F0 ρ σ H F Q R o=>rt H0 F0 ρ σ H F _ R (OutA.fstA o fun ds vs H1 F1 g q o1=>?_)⟩
 obtain⟨z,hz,k⟩:=o1.lf
 have fh:=(R.grow g).fh
 match ds,q,hz with
 | [.lst l],q,hz =>
  obtain⟨v,rfl,q1⟩:=q.one
  cases q1 with
  | lst sq dq =>
   obtain⟨e1,e2,e3⟩:=zbE (a:=0) fh dq hz k
   rw[e1] at sq
   exact .inl ⟨_,_,rfl,fh.seq sq,e2,fun p ms hp pm sm=>e3 ms pm sm p hp⟩
 | [.tup l],q,hz =>
  obtain⟨v,rfl,q1⟩:=q.one
  cases q1 with
  | tup sq dq =>
   obtain⟨e1,e2,e3⟩:=zbE (a:=0) fh dq hz k
   rw[e1] at sq
   exact .inr ⟨_,_,rfl,fh.seqT sq,e2,fun p ms hp pm sm=>e3 ms pm sm p hp⟩
theorem zcc {i:Nat}{pos':Pos}(hN:X.N.Nodup)(hi:X.N[i]? = some x)(hx:Loc X.env.scope x)(he:XL X cl E e fs)(hs:swapsWith e (some (.Name x pos')) pos.line X.env=pure false:=by rfl)(hf:X.fn x=true∨X.env.scope.names.lookup x=some .local:=by first|exact .inl rfl|exact .inr rfl|assumption) :
  XS X cl E (.Assign [.Name x pos'] e pos) (vU i fs):=by
 obtain⟨t,pt,rt⟩:=he
 refine XS'.out ⟨_,zf7 hN hi hx pt hs hf,fun H0 F0 ρ σ H F Dn R o=>rt H0 F0 ρ σ H F _ R ?_⟩
 unfold vU at o
 cases e:fs ρ with
 | ok d=>rw[e] at o;exact fun vs H' F' gg q p hp=>o _ _ F' ((R.grow gg).setO hp q) gg.ff
 | ex n=>rw[e] at o;exact o
 | no=>rw[e] at o;exact o
theorem zbm {i:Nat}{o:Expr}{apos cpos:Pos}(ho:PE X o (zlU i))(ha:XE X cl E e fa)(m:Mth X o e "append" apos cpos)(hs:swapsWith (.Call (.Attribute o "append" apos) [e] [] cpos) none pos.line X.env=pure false:=by rfl):XS X cl E (.Expr (.Call (.Attribute o "append" apos) [e] [] cpos) pos) (zaE i fa):=by
 obtain⟨u,pu,ru⟩:=ha.ex
 refine XS'.out ⟨_,zgQ (zd8 PySem.F.plainAttrs_list PySem.F.slot_list_append PySem.F.type_list_append zgU ho (wA pu uX m.hs) m.base m.few m.line m.hs m.plain) hs,fun H0 F0 ρ σ H F Dn R oo=>?_⟩
 unfold zaE at oo
 cases hw:owL ρ i with
 | none=>rw[hw] at oo;exact oo.elim
 | some ds =>
  rw[hw] at oo
  have hd:=zcv hw
  obtain⟨a,vs,h1,h2,h3,h4,h5⟩:=R.ow i ds hd
  refine⟨.ref a,h1,.inl ⟨rfl,vs,.inl (.inl h2)⟩,ru H0 F0 ρ σ H F _ R ?_⟩
  cases e:fa ρ with
  | ok d =>
   simp only[e] at oo
   split at oo
   ·rename_i hl
    intro v H1 F1 g q
    have R1:=R.grow g
    refine⟨a,vs,v,rfl,rfl,g.hh _ _ h2,?_,?_⟩
    ·rw[h5.length,sizeLine_eq];omega
    ·exact oo _ _ F1 (R1.put hd h1 ((h5.mono g.ff).append (.cons q .nil))) g.ff
   ·exact oo.elim
  | ex n=>simp only[e] at oo;exact oo
  | no=>simp only[e] at oo;exact oo.elim
def zcC (i j:Nat)(f:Rho→Rs D):Rho→Out:=fun ρ=>match owL ρ i with
 | some ds=>(match f ρ with | .ok (.int k)=>(if 0≤k∧k<1000000 then(match ds[k.toNat]? with|some d=>.nx ((ρ.set i (.ow (ds.eraseIdx k.toNat))).set j (.fz d))|none=>.no) else .no) | .ex n=>.ex n|_=>.no)
 | none=>.no
theorem Dts.erase {K:PySem.W.Frag}{F:Hp}:∀{vs:List V}{ds:List D} (k:Nat),Dts K cl F vs ds→Dts K cl F (vs.eraseIdx k) (ds.eraseIdx k)
 | _,_,_,.nil=>.nil
 | _,_,0,.cons _ r=>r
 | _,_,k+1,.cons q r=>.cons q (Dts.erase k r)
theorem zla {i j:Nat}{o:Expr}{y:Str}{py apos cpos:Pos}(hN:X.N.Nodup)(hj:X.N[j]? = some y)(hy:Loc X.env.scope y)(ho:PE X o (zlU i))(ha:XE X cl E e fa)(m:Mth X o e "pop" apos cpos)(hs:swapsWith (.Call (.Attribute o "pop" apos) [e] [] cpos) (some (.Name y py)) pos.line X.env=pure false:=by rfl)(hf:X.fn y=true∨X.env.scope.names.lookup y=some .local:=by first|exact .inl rfl|exact .inr rfl|assumption) :
  XS X cl E (.Assign [.Name y py] (.Call (.Attribute o "pop" apos) [e] [] cpos) pos) (zcC i j fa):=by
 obtain⟨u,pu,ru⟩:=ha.ex
 refine XS'.out ⟨_,zf7 hN hj hy (zd8 PySem.F.plainAttrs_list PySem.F.slot_list_pop PySem.F.type_list_pop zij ho (wA pu uX m.hs) m.base m.few m.line m.hs m.plain) hs hf,fun H0 F0 ρ σ H F Dn R oo=>?_⟩
 unfold zcC at oo
 cases hw:owL ρ i with
 | none=>rw[hw] at oo;exact oo.elim
 | some ds =>
  rw[hw] at oo
  have hd:=zcv hw
  obtain⟨a,vs,h1,h2,h3,h4,h5⟩:=R.ow i ds hd
  refine⟨.ref a,h1,.inl ⟨rfl,vs,.inl (.inl h2)⟩,ru H0 F0 ρ σ H F _ R ?_⟩
  cases e:fa ρ with
  | ok d =>
   simp only[e] at oo
   intro v H1 F1 g q
   cases q with
   | int k =>
    dsimp only at oo
    split at oo
    ·rename_i hk
     cases hg:ds[k.toNat]? with
     | none=>simp only[hg] at oo;exact oo.elim
     | some d =>
      simp only[hg] at oo
      have R1:=R.grow g
      have h5':=h5.mono g.ff
      obtain⟨w,hw1,hw2⟩:=h5'.get' hg
      have hlt:k.toNat<vs.length:=(List.getElem?_eq_some_iff.mp hw1).1
      refine⟨a,vs,k,k.toNat,w,rfl,rfl,g.hh _ _ h2,by omega,by omega,?_,hw1,?_⟩
      ·exact seqIndex_of hk.1 (by omega)
      ·exact oo _ _ F1 ((R1.put hd h1 (h5'.erase _)).set hw2) g.ff
    ·exact oo.elim
   | _=>exact oo.elim
  | ex n=>simp only[e] at oo;exact oo
  | no=>simp only[e] at oo;exact oo.elim
end
end L2
namespace L2
open PySem PySem.Spec PyProof.Rows
section
variable {X:Cx}{cl:Nat→Addr}{E:XK}{e o a b c:Expr}{es:List Expr}{fa fb fc:Rho→Rs D}{fs:Rho→Rs (List D)}{x y:Str}{p pos:Pos}
def fCh (g g':D→D→Option D)(fa fb fc:Rho→Rs D):Rho→Rs D:=fun ρ=>(fa ρ).bind fun a=>(fb ρ).bind fun b=>(lf (g a b)).bind fun z=>(tru z).bind fun k=>if k=true then(fc ρ).bind fun c=>lf (g' b c) else .ok (.bl false)
theorem zdm {H0 F0 H F:Hp}{ρ:Rho}{σ:St}{r r':R2}{g g':D→D→Option D}{ta tb tc:TE}{Q:VK}(hg:Op2 X.K cl r g)(hg':Op2 X.K cl r' g')(R:Rl X.K cl H0 F0 ρ σ H F)
  (ra:∀(H0 F0:Hp) (ρ:Rho) (σ:St) (H F:Hp) (Q:VK),Rl X.K cl H0 F0 ρ σ H F→OutE X.K cl E H0 F H (fa ρ) Q→ta σ H Q) (rb:∀(H0 F0:Hp) (ρ:Rho) (σ:St) (H F:Hp) (Q:VK),Rl X.K cl H0 F0 ρ σ H F→OutE X.K cl E H0 F H (fb ρ) Q→tb σ H Q) (rc:∀(H0 F0:Hp) (ρ:Rho) (σ:St) (H F:Hp) (Q:VK),Rl X.K cl H0 F0 ρ σ H F→OutE X.K cl E H0 F H (fc ρ) Q→tc σ H Q)
  (o:OutE X.K cl E H0 F H (fCh g g' fa fb fc ρ) Q):zga r r' ta tb tc σ H Q:=by
 refine ra H0 F0 ρ σ H F _ R (OutE.fst o fun d v H1 F1 g1 q o1=>?_)
 refine rb H0 F0 ρ σ H1 F1 _ (R.grow g1) (OutE.fst o1 fun d2 v2 H2 F2 g2 q2 o2=>?_)
 have R2:=(R.grow g1).grow g2
 cases hz:g d d2 with
 | none=>rw[hz] at o2;exact o2.elim
 | some z =>
  rw[hz] at o2
  refine hg F2 H2 v v2 d d2 z _ R2.fh (q.mono g2.ff) q2 hz fun w H3 F3 g3 q3=>?_
  obtain⟨k,rfl,o3⟩:=OutE.tru (F1:=F3) (H1:=H3) q3 (OutE.grow (r:=(tru z).bind _) o2 g3)
  refine⟨k,rfl,?_⟩
  have R3:=R2.grow g3
  cases k with
  | false=>exact o3.okI R3.fh (.bl _)
  | true =>
   refine rc H0 F0 ρ σ H3 F3 _ R3 (OutE.fst o3 fun d4 v4 H4 F4 g4 q4 o4=>?_)
   obtain⟨z2,hz2,k2⟩:=o4.lf
   exact hg' F4 H4 v2 v4 d2 d4 z2 _ (R3.grow g4).fh (q2.mono (g3.trans g4).ff) q4 hz2 k2
theorem zhn {op op':CmpOp}{r r':R2}{g g':D→D→Option D}(ho:OpR X (compareOp op) r)(ho':OpR X (compareOp op') r')(hg:Op2 X.K cl r g)(hg':Op2 X.K cl r' g')(ha:XE X cl E a fa)(hb:XE X cl E b fb)(hc:XE X cl E c fc)(hm:lastMarks [op,op'] [b,c]=false:=by with_unfolding_all rfl):XE X cl E (.Compare a [op,op'] [b,c] pos) (fCh g g' fa fb fc):=by
 obtain⟨t,pt,rt⟩:=ha.ex
 obtain⟨u,pu,ru⟩:=hb.ex
 obtain⟨w,pw,rw'⟩:=hc.ex
 exact XE'.out ⟨_,zht ho ho' pt pu pw hm,fun H0 F0 ρ σ H F Q R o=>zdm hg hg' R rt ru rw' o⟩
theorem zhV {op op':CmpOp}{r r':R2}{g g':D→D→Option D}(ho:OpR X (compareOp op) r)(ho':OpR X (compareOp op') r')(hg:Op2 X.K cl r g)(hg':Op2 X.K cl r' g')(ha:XE X cl E a fa)(hb:XE X cl E b fb)(hc:XE X cl E c fc)(hm:lastMarks [op,op'] [b,c]=false:=by with_unfolding_all rfl):XT X cl E (.Compare a [op,op'] [b,c] pos) (bT (fCh g g' fa fb fc)):=by
 obtain⟨t,pt,rt⟩:=ha.ex
 obtain⟨u,pu,ru⟩:=hb.ex
 obtain⟨w,pw,rw'⟩:=hc.ex
 exact XT'.out ⟨_,zhx ho ho' pt pu pw hm,fun H0 F0 ρ σ H F Q R o=>zdm hg hg' R rt ru rw' (OutB.bT R o)⟩
end
end L2
namespace L2
open PySem PySem.Spec PyProof.Rows
def fL1 (g:D→Option (List D))(fa:Rho→Rs D):Rho→Rs (List D):=fun ρ=>(fa ρ).bind fun a=>lf' (g a)
section
variable {X:Cx}{cl:Nat→Addr}{E:XK}{e o a b c:Expr}{es:List Expr}{fa fb fc:Rho→Rs D}{fs:Rho→Rs (List D)}{x y:Str}{p pos:Pos}
def zay (i:Nat):Rho→Out:=fun ρ=>.nx (ρ.set i (.od []))
def odL (ρ:Rho)(i:Nat):Option (List (List Nat×D)):=match ρ[i]? with|some (.od ds)=>some ds|_=>none
def putD (kvs:List (List Nat×D))(k:List Nat)(v:D):List (List Nat×D):=if (kvs.any fun kv=>decide (kv.1=k))=true then kvs.map (fun kv=>if kv.1=k then(kv.1,v) else kv) else kvs++[(k,v)]
theorem Dks.any {K:PySem.W.Frag}{F:Hp}{k:List Nat}:∀{vs:List (Key×V)}{ds:List (List Nat×D)},Dks K cl F vs ds→(vs.any fun kv=>decide (kv.1=Sum.inr (T k)))=(ds.any fun kv=>decide (kv.1=k))
 | _,_,.nil=>rfl
 | _,_,.cons (l:=l) ok q r=>by
  rw[List.any_cons,List.any_cons,Dks.any r]
  congr 1
  by_cases h:l=k
  ·subst h;simp
  ·rw[decide_eq_false h,decide_eq_false]
   intro z;injection z with z;exact h (zfm z)
theorem Dks.mapPut {K:PySem.W.Frag}{F:Hp}{k:List Nat}{v:V}{d:D}(hv:Dt K cl F v d):∀{vs:List (Key×V)}{ds:List (List Nat×D)},Dks K cl F vs ds→Dks K cl F (vs.map fun kv=>if kv.1=Sum.inr (T k) then(kv.1,v) else kv) (ds.map fun kv=>if kv.1=k then(kv.1,d) else kv)
 | _,_,.nil=>.nil
 | _,_,.cons (l:=l) ok q r=>by
  rw[List.map_cons,List.map_cons]
  by_cases h:l=k
  ·subst h;rw[if_pos rfl,if_pos rfl];exact .cons ok hv (Dks.mapPut hv r)
  ·have h':¬((Sum.inr (T l):Key)=Sum.inr (T k)):=fun z=>by injection z with z;exact h (zfm z)
   rw[if_neg h,if_neg h'];exact .cons ok q (Dks.mapPut hv r)
theorem Dks.snoc {K:PySem.W.Frag}{F:Hp}{k:List Nat}{v:V}{d:D}(hk:TxtOk (T k))(hv:Dt K cl F v d):∀{vs:List (Key×V)}{ds:List (List Nat×D)},Dks K cl F vs ds→Dks K cl F (vs++[(Sum.inr (T k),v)]) (ds++[(k,d)])
 | _,_,.nil=>.cons hk hv .nil
 | _,_,.cons ok q r=>.cons ok q (Dks.snoc hk hv r)
theorem Dks.put {K:PySem.W.Frag}{F:Hp}{k:List Nat}{v:V}{d:D}{vs:List (Key×V)}{ds:List (List Nat×D)}(h:Dks K cl F vs ds)(hk:TxtOk (T k))(hv:Dt K cl F v d):Dks K cl F (putK vs (Sum.inr (T k)) v) (putD ds k d):=by
 unfold putK putD
 rw[h.any]
 split
 ·exact h.mapPut hv
 ·exact h.snoc hk hv
theorem Dks.length {K:PySem.W.Frag}{F:Hp}:∀{vs:List (Key×V)}{ds:List (List Nat×D)},Dks K cl F vs ds→vs.length=ds.length
 | _,_,.nil=>rfl
 | _,_,.cons _ _ r=>by simp[r.length]
theorem Dks.keys {K:PySem.W.Frag}{F:Hp}:∀{vs:List (Key×V)}{ds:List (List Nat×D)},Dks K cl F vs ds→vs.map (·.1)=(ds.map (·.1)).map fun l=>(Sum.inr (T l):Key)
 | _,_,.nil=>rfl
 | _,_,.cons _ _ r=>by simp[r.keys]
def zfy (i:Nat)(fk fv:Rho→Rs D):Rho→Out:=fun ρ=>match odL ρ i with
 | some ds=>(match fv ρ with
  | .ok v=>(match fk ρ with | .ok (.str k)=>if ds.length<1000000 then .nx (ρ.set i (.od (putD ds k v))) else .no | .ex n=>.ex n|_=>.no)
  | .ex n=>.ex n
  | .no=>.no)
 | none=>.no
def fSD (i:Nat):Rho→Rs (List D):=fun ρ=>match odL ρ i with
 | some ds=>if ds.length<64 then .ok ((My.sortF (ds.map (·.1))).map .str) else .no
 | none=>.no
end
end L2
namespace L2
open PySem PySem.Spec PyProof.Rows
def sRs (n:Nat)(fs:Rho→Rs (List D)):Rho→Out:=fun ρ=>match fs ρ with | .ok ds=>if ds.length≤3 then .ex n else .no | .ex m=>.ex m | .no=>.no
section
variable {P:Program}{w:World}{K:PySem.W.Frag}{mg:Str→Option Value}{base:Heap}{N:List Str}{qual:Str}{scope:Scope}{f:Addr}{cd:Value}{A:Around}{outer:List Env}{s₁:Shared}{H₁:Hp}{E:XK}{cl:Nat→Addr}
theorem jD {x:Str}{e₀:Expr}{np cpos pos:Pos}{fs:Rho→Rs (List D)}{n:Nat}(O:Own K mg x)(hO:O.C=cl n)(hg:Gl (zas (CX1 P w) P w K mg base N qual scope f cd A outer s₁ H₁ E) x)(ha:XA (zas (CX1 P w) P w K mg base N qual scope f cd A outer s₁ H₁ E) cl E [e₀] fs)
  (he:starEach [e₀] (zas (CX1 P w) P w K mg base N qual scope f cd A outer s₁ H₁ E).env=(false,eval e₀ (zas (CX1 P w) P w K mg base N qual scope f cd A outer s₁ H₁ E).env)::starEach [] (zas (CX1 P w) P w K mg base N qual scope f cd A outer s₁ H₁ E).env) (hd:(x == ("__debug__" : Str))=false:=by decide) :
  XS (zas (CX1 P w) P w K mg base N qual scope f cd A outer s₁ H₁ E) cl E (.Raise (some (.Call (.Name x np) [e₀] [] cpos)) none pos) (sRs n fs):=by
 obtain⟨t,pt,rt⟩:=ha.ex
 refine XS'.out ⟨_,zhz O hg pt he rfl hd,fun H0 F0 ρ σ H F Dn R o=>rt H0 F0 ρ σ H F _ R ?_⟩
 unfold sRs at o
 cases e:fs ρ with
 | ok ds =>
  rw[e] at o
  intro vs H' F' g q
  dsimp only at o
  split at o
  ·rename_i hl
   refine⟨q.length▸hl,?_⟩
   rw[hO]
   exact o H' (R.gr.hh.trans g.hh)
  ·exact o.elim
 | ex n=>rw[e] at o;exact o
 | no=>rw[e] at o;exact o
end
def yx (m:Nat)(g:Rho→Out)(ds:List D):Rs D:=match g (ds.map .fz++List.replicate (m - ds.length) .no) with | .nx _=>.ok .non | .rt d=>.ok d | .ex n=>.ex n|_=>.no
theorem Rl.start {K:PySem.W.Frag}{cl:Nat→Addr}{H F:Hp}{N:List Str}{vs:List V}{ds:List D}(s:Same F H)(q:Dts K cl F vs ds):Rl K cl H F (ds.map .fz++List.replicate (N.length - ds.length) .no) (L2.start N vs) H F:=by
 have shape:∀(i:Nat) (s:Sl),(ds.map Sl.fz++List.replicate (N.length - ds.length) Sl.no)[i]? = some s→(∃d,s=.fz d∧ds[i]? = some d)∨s=.no:=fun i s e=>by
  rcases Nat.lt_or_ge i ds.length with h|h
  ·rw[List.getElem?_append_left (by simpa using h),List.getElem?_map,List.getElem?_eq_getElem h] at e
   exact .inl ⟨ds[i],(Option.some.inj e).symm,List.getElem?_eq_getElem h⟩
  ·rw[List.getElem?_append_right (by simpa using h),List.getElem?_replicate] at e
   split at e
   ·exact .inr (Option.some.inj e).symm
   ·cases e
 refine⟨Gr.refl s,by unfold L2.start;simp[q.length],fun i d e=>?_,fun i d e=>?_,fun i d e=>?_,fun i j s t a z1 z2 o1 o2 e1 e2=>?_⟩
 ·rcases shape i _ e with⟨d',e1,e2⟩|e1
  ·injection e1 with e1;subst e1
   obtain⟨v,h1,h2⟩:=q.get' e2
   refine⟨v,?_,h2⟩
   unfold L2.start
   have hi:=(List.getElem?_eq_some_iff.mp h1).1
   rw[List.getElem?_append_left (by simpa using hi),List.getElem?_map,h1];rfl
  ·cases e1
 ·rcases shape i _ e with⟨d',e1,e2⟩|e1 <;>cases e1
 ·rcases shape i _ e with⟨d',e1,e2⟩|e1 <;>cases e1
 ·rcases shape i _ z1 with⟨d',rfl,_⟩|rfl <;>cases o1
theorem fnD {P:Program}{w:World}{K:PySem.W.Frag}{mg:Str→Option Value}{base:Heap}{cl:Nat→Addr}{x qual:Str}{st:Stmt}{f:Addr}{fd:FuncData}{N ps:List Str}{k m n:Nat}{g:Rho→Out}(Fu:Fun K x qual st f fd)(S:FnScope N ps (zj st))(hm:N.length=m)(hn:ps.length=n)
  (hb:∀(cdv:Value) (A:Around) (outer:List Env) (s:Shared) (H:Hp) (E:XK),Room k (A.deeper (envOfC qual (zj st) s.heap.objs.size f cdv))→XSs (zas (CX1 P w) P w K mg base N qual (zj st) f cdv A outer s H E) cl E (zG st) g):FnOk P w K mg base (CX1 P w) (k+1) f fd ps (spD K cl (yx m g) n):=by
 subst hm hn
 refine Fu.okX S (fun vs H Q E h=>h.choose_spec.choose_spec.2.2.1) fun cdv A outer s H vs Q E hr h=>?_
 obtain⟨F,ds,sm,dq,hl,o⟩:=h
 refine⟨_,hb cdv A outer s H E hr,H,F,_,F,Rl.start (N:=N) sm dq,?_⟩
 unfold yx at o
 cases e:g (ds.map .fz++List.replicate (N.length - ds.length) .no) with
 | nx ρ=>rw[e] at o;exact fun σ H' F' R _=>o .non H' F' R.gr .non
 | rt d=>rw[e] at o;exact fun v H' F' gg q=>o v H' F' gg q
 | bk ρ=>rw[e] at o;exact o.elim
 | ct ρ=>rw[e] at o;exact o.elim
 | ex n=>rw[e] at o;exact o
 | no=>rw[e] at o;exact o
def forZ (i j:Nat)(g:Rho→Out):List D→List D→Rho→Out
 | d::ds,e::es,ρ=>match g ((ρ.set i (.fz d)).set j (.fz e)) with | .nx ρ'=>forZ i j g ds es ρ' | .ct ρ'=>forZ i j g ds es ρ' | .bk ρ'=>.nx ρ'|o=>o
 | _,_,ρ=>.nx ρ
def qK (i j:Nat)(fa fb:Rho→Rs D)(g:Rho→Out):Rho→Out:=fun ρ=>match (fa ρ),(fb ρ) with
 | .ok (.tup ds),.ok (.tup es)=>forZ i j g ds es ρ
 | _,_=>.no
section
variable {X:Cx}{cl:Nat→Addr}{E:XK}{a b:Expr}{fa fb:Rho→Rs D}{g:Rho→Out}{p pos zpos tp px py:Pos}{x y:Str}{k:Nat}{body:List Stmt}
theorem zhi {K:PySem.W.Frag}{H0 F0 F:Hp}{i j:Nat}{ρ:Rho}{Dn:Ends}(o:OutS K cl E H0 F0 F (qK i j fa fb g ρ) Dn):∃ds es,fa ρ=.ok (.tup ds)∧fb ρ=.ok (.tup es)∧OutS K cl E H0 F0 F (forZ i j g ds es ρ) Dn:=by
 unfold qK at o
 split at o
 ·rename_i ds es e1 e2;exact⟨ds,es,e1,e2,o⟩
 ·exact o.elim
theorem zi0 {i j:Nat}(hp:PassesOwn (model X.prog X.w) X.A X.env X.xe)(hc:X.calm=true)(hz:Gl X "zip")(hm:X.mg "zip" = none)(ha:XE X cl E a fa)(hb:XE X cl E b fb)(hg:PG X (.Tuple [.Name x px,.Name y py] k tp) (zjt X.K 2 (j7 (qx i) (j7 (qx j) zjx))))(hbd:XSs X cl E body g)(hs:starEach [a,b] X.env=[(false,eval a X.env),(false,eval b X.env)])(hs2:starEach [b] X.env=[(false,eval b X.env)]):XS X cl E (.For (.Tuple [.Name x px,.Name y py] k tp) (.Call (.Name "zip" p) [a,b] [] zpos) body [] pos) (qK i j fa fb g):=by
 obtain⟨t,pt,rt⟩:=ha.ex
 obtain⟨u,pu,ru⟩:=hb.ex
 obtain⟨w,pw,rw'⟩:=hbd.ex
 refine XS'.out ⟨_,ziI hp hc (zem hz hm pt pu hs hs2) hg pw,fun H0 F0 ρ σ H F Dn R o=>rt H0 F0 ρ σ H F _ R ?_⟩
 obtain⟨ds,es,e1,e2,o'⟩:=zhi o
 rw[e1]
 intro v1 H1 F1 g1 q1
 have R1:=R.grow g1
 refine ru H0 F0 ρ σ H1 F1 _ R1 ?_
 rw[e2]
 intro v2 H2 F2 g2 q2
 have R2:=R1.grow g2
 cases q1 with
 | tup sq1 dq1 =>
  cases q2 with
  | tup sq2 dq2 =>
   have sq1':=g2.ff.seqT sq1
   have dq1':=dq1.mono g2.ff
   refine⟨_,_,_,_,rfl,R2.fh.seqT sq1',R2.fh.seqT sq2,?_⟩
   refine zjZ (fun m σ' H'=>∃ρ' F',Rl X.K cl H0 F0 ρ' σ' H' F'∧Same F2 F'∧OutS X.K cl E H0 F0 F' (forZ i j g (ds.drop m) (es.drop m) ρ') Dn) ⟨ρ,F2,R2,Same.refl _,o'.grow (g1.ff.trans g2.ff)⟩ (fun m σ' H' ⟨ρ',F',R',s',_⟩=>⟨(s'.trans R'.fh).seqT sq1',(s'.trans R'.fh).seqT sq2⟩) ?_ ?_
   ·rintro m z1 z2 pp σ' H' hx hy hpp ⟨ρ',F',R',s',o3⟩
    obtain⟨c1,hd1,qd1⟩:=dq1'.get hx
    obtain⟨c2,hd2,qd2⟩:=dq2.get hy
    have r1:ds.drop m=c1::ds.drop (m+1):=by
     obtain⟨hk,e3⟩:=List.getElem?_eq_some_iff.mp hd1
     rw[List.drop_eq_getElem_cons hk,e3]
    have r2:es.drop m=c2::es.drop (m+1):=by
     obtain⟨hk,e3⟩:=List.getElem?_eq_some_iff.mp hd2
     rw[List.drop_eq_getElem_cons hk,e3]
    rw[r1,r2] at o3
    unfold forZ at o3
    have R4:=R'.grow (Gr.newO (o:=.tup [z1,z2]) R'.fh hpp)
    refine⟨pp,[z1,z2],rfl,.inl (.inl yg),rfl,z1,_,rfl,z2,_,rfl,rfl,rw' H0 F0 _ _ _ F' _ ((R4.set (qd1.mono s')).set (qd2.mono s')) ?_⟩
    cases e4:g ((ρ'.set i (.fz c1)).set j (.fz c2)) with
    | nx ρ2=>simp only[e4] at o3;exact fun σ2 H2 F2 R2 s2=>⟨ρ2,F2,R2,s'.trans s2,o3.grow s2⟩
    | ct ρ2=>simp only[e4] at o3;exact fun σ2 H2 F2 R2 s2=>⟨ρ2,F2,R2,s'.trans s2,o3.grow s2⟩
    | bk ρ2=>simp only[e4] at o3;exact o3
    | rt d=>simp only[e4] at o3;exact o3
    | ex n=>simp only[e4] at o3;exact o3
    | no=>simp only[e4] at o3;exact o3
   ·rintro σ' H' ⟨ρ',F',R',s',o3⟩
    rw[dq1'.length,dq2.length] at o3
    have e5:forZ i j g (ds.drop (min ds.length es.length)) (es.drop (min ds.length es.length)) ρ'=.nx ρ':=by
     rcases Nat.le_total ds.length es.length with h|h
     ·rw[Nat.min_eq_left h,List.drop_of_length_le (Nat.le_refl ds.length)];unfold forZ;rfl
     ·rw[Nat.min_eq_right h,List.drop_of_length_le (Nat.le_refl es.length)]
      cases ds.drop es.length <;>(unfold forZ;rfl)
    rw[e5] at o3
    exact o3 σ' H' F' R' (Same.refl _)
def wJ (ft:Rho→Rs Bool)(fe:Rho→Rs D)(ρ0:Rho):List D→List D→Rs (List D)
 | d::ds,c::cs=>match ft ((ρ0.set 0 (.fz d)).set 1 (.fz c)) with
  | .ok true=>(match fe ((ρ0.set 0 (.fz d)).set 1 (.fz c)) with | .ok e=>(wJ ft fe ρ0 ds cs).bind fun es=>.ok (e::es)|_=>.no)
  | .ok false=>wJ ft fe ρ0 ds cs
  | _=>.no
 | _,_=>.ok []
def fCz (fa fb:Rho→Rs D)(ft:Rho→Rs Bool)(fe:Rho→Rs D)(caps:List Nat):Rho→Rs (List D):=fun ρ=>match fa ρ,fb ρ with
 | .ok (.tup ds),.ok (.tup cs)=>(match wJ ft fe (vY 2 caps ρ) ds cs with | .ok es=>if ds.length≤1000000 then .ok es else .no|_=>.no)
 | _,_=>.no
variable {scope:Scope}{caps:List Nat}{elt:Expr}{ifs:List Expr}{ft:Rho→Rs Bool}{fe:Rho→Rs D}
structure CompZ (X:Cx)(cl:Nat→Addr)(scope:Scope)(x y:Str)(caps:List Nat)(tg:Expr)(ifs:List Expr)(elt:Expr)(ft:Rho→Rs Bool)(fe:Rho→Rs D):Prop where
 tgt:∀pins C ex s H,PG (cxC X pins scope [x,y] caps C ex s H) tg (zjt X.K 2 (j7 (qx 0) (j7 (qx 1) zjx)))
 tst:∀pins C ex s H,XTs (cxC X pins scope [x,y] caps C ex s H) cl E0 ifs ft
 elm:∀pins C ex s H,XE (cxC X pins scope [x,y] caps C ex s H) cl E0 elt fe
theorem zjY {K:PySem.W.Frag}{H0 F H:Hp}{ρ:Rho}{Q:List V→Hp→Prop}(o:OutA K cl E H0 F H (fCz fa fb ft fe caps ρ) Q):∃ds cs es,fa ρ=.ok (.tup ds)∧fb ρ=.ok (.tup cs)∧wJ ft fe (vY 2 caps ρ) ds cs=.ok es∧ds.length≤1000000∧OutA K cl E H0 F H (.ok es) Q:=by
 unfold fCz at o
 split at o
 ·rename_i ds cs e1 e2
  split at o
  ·rename_i es e3
   split at o
   ·rename_i hl;exact⟨ds,cs,es,e1,e2,e3,hl,o⟩
   ·exact o.elim
  ·exact o.elim
 ·exact o.elim
theorem ziq (ok:CompOk X scope caps)(hc:X.calm=true)(hz:Gl X "zip")(hm:X.mg "zip" = none)(ha:XE X cl E a fa)(hb:XE X cl E b fb)(CI:CompZ X cl scope x y caps (.Tuple [.Name x px,.Name y py] k tp) ifs elt ft fe)(hs:starEach [a,b] X.env=[(false,eval a X.env),(false,eval b X.env)])(hs2:starEach [b] X.env=[(false,eval b X.env)]) :
  XL X cl E (.ListComp elt [⟨.Tuple [.Name x px,.Name y py] k tp,.Call (.Name "zip" p) [a,b] [] zpos,ifs,0⟩] scope pos) (fCz fa fb ft fe caps):=by
 obtain⟨t,pt,rt⟩:=ha.ex
 obtain⟨u,pu,ru⟩:=hb.ex
 refine⟨_,zdV ok hc (zem hz hm pt pu hs hs2) (g:=zjt X.K 2 (j7 (qx 0) (j7 (qx 1) zjx))) (tt:=tDB X.K cl E0 ft) (te:=tDE X.K cl E0 fe) ⟨CI.tgt,CI.tst,CI.elm⟩,fun H0 F0 ρ σ H F Q R o=>rt H0 F0 ρ σ H F _ R ?_⟩
 obtain⟨ds,cs,es,e1,e2,hcz,hl,o⟩:=zjY o
 rw[e1]
 intro v1 H1 F1 g1 q1
 have R1:=R.grow g1
 refine ru H0 F0 ρ σ H1 F1 _ R1 ?_
 rw[e2]
 intro v2 H2 F2 g2 q2
 have R2:=R1.grow g2
 cases q1 with
 | tup sq1 dq1 =>
  cases q2 with
  | tup sq2 dq2 =>
   have sq1':=g2.ff.seqT sq1
   have dq1':=dq1.mono g2.ff
   refine⟨_,_,_,_,rfl,R2.fh.seqT sq1',R2.fh.seqT sq2,?_⟩
   refine zg5 (sz6 (dq1'.length▸hl)) (fun m ys H'=>∃F' es1 es2,Gr F2 H2 F' H'∧Dts X.K cl F' ys es1∧ys.length≤m∧es=es1++es2∧wJ ft fe (vY 2 caps ρ) (ds.drop m) (cs.drop m)=.ok es2) ⟨F2,[],es,Gr.refl R2.fh,.nil,Nat.le_refl _,rfl,hcz⟩ (fun m ys H' ⟨F',_,_,gg,_,h1,_⟩=>⟨(gg.ff.trans gg.fh).seqT sq1',(gg.ff.trans gg.fh).seqT sq2,h1⟩) ?_ ?_
   ·rintro m z1 z2 pp ys H' hx hy hpp ⟨F',es1,es2,gg,qs,hly,rfl,hc'⟩
    obtain⟨c1,hd1,qd1⟩:=dq1'.get hx
    obtain⟨c2,hd2,qd2⟩:=dq2.get hy
    have r1:ds.drop m=c1::ds.drop (m+1):=by
     obtain⟨hk,e3⟩:=List.getElem?_eq_some_iff.mp hd1
     rw[List.drop_eq_getElem_cons hk,e3]
    have r2:cs.drop m=c2::cs.drop (m+1):=by
     obtain⟨hk,e3⟩:=List.getElem?_eq_some_iff.mp hd2
     rw[List.drop_eq_getElem_cons hk,e3]
    rw[r1,r2] at hc'
    unfold wJ at hc'
    have gz:Gr F' H' F' (upd H' pp (.tup [z1,z2])):=Gr.newO (gg.fh) hpp
    have Rz:=((R2.grow gg).grow gz).cap [x,y] caps
    have Rw:Rl X.K cl (upd H' pp (.tup [z1,z2])) F' (((vY 2 caps ρ).set 0 (.fz c1)).set 1 (.fz c2)) (((zcD [x,y] caps σ).set 0 (some z1)).set 1 (some z2)) (upd H' pp (.tup [z1,z2])) F':=(Rz.set (qd1.mono gg.ff)).set (qd2.mono gg.ff)
    refine⟨pp,[z1,z2],rfl,.inl (.inl yg),rfl,z1,_,rfl,z2,_,rfl,rfl,?_,_,F',_,F',Rw,?_⟩
    ·exact(Kps.set rfl).trans (Kps.set rfl)
    ·cases e3:ft (((vY 2 caps ρ).set 0 (.fz c1)).set 1 (.fz c2)) with
     | ok bb =>
      rw[e3] at hc'
      intro H3 F3 g3
      cases bb with
      | true =>
       rw[if_pos rfl]
       cases e4:fe (((vY 2 caps ρ).set 0 (.fz c1)).set 1 (.fz c2)) with
       | ok ee =>
        simp only[e4] at hc'
        refine⟨_,F',_,F3,Rw.grow g3,?_⟩
        rw[e4]
        intro yy H4 F4 g4 qy
        cases e5:wJ ft fe (vY 2 caps ρ) (ds.drop (m+1)) (cs.drop (m+1)) with
        | ok es3 =>
         rw[e5] at hc'
         injection hc' with hc'
         exact⟨F4,es1++[ee],es3,gg.trans (gz.trans (g3.trans g4)),(qs.mono (g3.ff.trans g4.ff)).append (.cons qy .nil),by simp;exact hly,by rw[← hc',List.append_assoc];rfl,rfl⟩
        | ex n=>rw[e5] at hc';cases hc'
        | no=>rw[e5] at hc';cases hc'
       | ex n=>simp only[e4] at hc';cases hc'
       | no=>simp only[e4] at hc';cases hc'
      | false =>
       rw[if_neg Bool.false_ne_true]
       exact⟨F3,es1,es2,gg.trans (gz.trans g3),qs.mono g3.ff,Nat.le_succ_of_le hly,rfl,hc'⟩
     | ex n=>rw[e3] at hc';cases hc'
     | no=>rw[e3] at hc';cases hc'
   ·rintro ys H' ⟨F',es1,es2,gg,qs,hly,rfl,hc'⟩
    rw[dq1'.length,dq2.length] at hc'
    have e5:wJ ft fe (vY 2 caps ρ) (ds.drop (min ds.length cs.length)) (cs.drop (min ds.length cs.length))=.ok []:=by
     rcases Nat.le_total ds.length cs.length with h|h
     ·rw[Nat.min_eq_left h,List.drop_of_length_le (Nat.le_refl ds.length)];unfold wJ;rfl
     ·rw[Nat.min_eq_right h,List.drop_of_length_le (Nat.le_refl cs.length)]
      cases ds.drop cs.length <;>(unfold wJ;rfl)
    rw[e5] at hc'
    injection hc' with hc'
    rw[← hc',List.append_nil] at o
    exact o ys H' F' (g1.trans (g2.trans gg)) qs
end
end L2
namespace L2
open PySem PySem.Spec PyProof.Rows
def zkM:D→Option D
 | .int i=>some (.int (-i))
 | _=>none
def fFl (i:Nat)(f:Rho→Rs D):Rho→Rs D:=fun ρ=>match owL ρ i with
 | some ds=>(match f (ρ.set i (.fz (.lst ds))) with | .ok d=>if d.fl=true then .ok d else .no | .ex n=>.ex n | .no=>.no)
 | none=>.no
def zkb:D→D→Option (List D)
 | .lst l,.int n=>if 0≤n∧n≤1000∧l.length≤1000 then some (List.replicate n.toNat l).flatten else none
 | _,_=>none
section
variable {X:Cx}{cl:Nat→Addr}{E:XK}{e a b:Expr}{fa fb:Rho→Rs D}{pos:Pos}{st:Stmt}
theorem zgm (h:XE X cl E a fa):XE X cl E (.UnaryOp .USub a pos) (f1 zkM fa):=by
 obtain⟨t,pt,rt⟩:=h.ex
 refine XE'.out ⟨_,zmz zky pt,fun H0 F0 ρ σ H F Q R o=>rt H0 F0 ρ σ H F _ R (OutE.fst o fun d v H1 F1 g q o1=>?_)⟩
 obtain⟨z,hz,k⟩:=o1.lf
 cases q with
 | int i=>obtain rfl:=Option.some.inj hz;exact⟨i,rfl,k _ _ _ (Gr.refl (R.grow g).fh) (.int _)⟩
 | _=>cases hz
theorem Dt.flatAny {K:PySem.W.Frag}{F F':Hp}{v:V}{d:D}(q:Dt K cl F v d)(h:d.fl=true):Dt K cl F' v d:=by
 cases q with
 | non=>exact .non
 | bl b=>exact .bl b
 | int i=>exact .int i
 | str l ok=>exact .str l ok
 | _=>cases h
theorem zmH {i:Nat}(h:XE X cl E e fa):XE X cl E e (fFl i fa):=by
 obtain⟨t,pt,rt⟩:=h.ex
 refine XE'.out ⟨_,pt,fun H0 F0 ρ σ H F Q R o=>?_⟩
 unfold fFl at o
 cases hw:owL ρ i with
 | none=>rw[hw] at o;exact o.elim
 | some ds =>
  rw[hw] at o
  obtain⟨F1,s1,R1⟩:=R.ice (zcv hw)
  refine rt H0 F0 _ σ H F1 _ R1 ?_
  cases e:fa (ρ.set i (.fz (.lst ds))) with
  | ok d =>
   simp only[e] at o
   split at o
   ·rename_i hf
    exact fun v H' F' g q=>o v H' F ⟨Same.refl _,g.hh,R.fh.trans g.hh,fun _ _ _ _ z=>z⟩ (q.flatAny hf)
   ·exact o.elim
  | ex n=>simp only[e] at o;exact o
  | no=>simp only[e] at o;exact o.elim
variable {scope:Scope}{x:Str}{caps:List Nat}{elt tg iter:Expr}{ifs:List Expr}{fi:Rho→Rs (List D)}{ft:Rho→Rs Bool}{fe:Rho→Rs D}
def zmF (K:PySem.W.Frag):R2:=fun x y H Q=>∃l b xs zs,x=.ref l∧y=.ref b∧SqL K H l xs∧SqL K H b zs∧xs.length+zs.length≤sizeLine∧∀p,H p=none→Q (.ref p) (upd H p (.lst (xs++zs)))
theorem zjC:OpR X (binaryOp .Add) (zmF X.K):=by
 intro pins s σ H x y v u Q I rx ry h
 obtain⟨l,b,xs,zs,rfl,rfl,hH,hB,hz,q⟩:=h
 cases rx
 cases ry
 obtain⟨its,r,⟨o,n,e,hc,hdd,hd⟩,z⟩:=I.list hH
 obtain⟨its2,r2,⟨o2,n2,e2,hc2,hdd2,hd2⟩,z2⟩:=I.list hB
 obtain⟨cls,dd,data,sl⟩:=o
 obtain⟨cls2,dd2,data2,sl2⟩:=o2
 simp only at hc hd hc2 hd2
 subst hc hd hc2 hd2
 refine concat_meets ⟨_,e,rfl⟩ ⟨_,e2,rfl⟩ noFill_list_add seq_list_add PySem.F.slot_list_add PySem.F.entry_list_add (PySem.F.args_list_add_2 _ _) (list_addW l b its.toArray its2.toArray n n2 dd dd2 sl sl2 (by rw[List.size_toArray,List.size_toArray,← r.length,← r2.length];exact hz)) ⟨e,e2,?_⟩
 have ea:its.toArray++its2.toArray=(its++its2).toArray:=by simp
 rw[ea]
 exact⟨.ref _,_,I.lnew (t':=s.toks) (r.append r2) (by rw[List.length_append];omega),rfl,q _ I.fresh⟩
theorem zio {a b:D}{z:List D}(e:zf8 a b=some z):∃l m,a=.lst l∧b=.lst m∧l.length+m.length≤1000000∧z=l++m:=by
 cases a with
 | lst l =>
  cases b with
  | lst m =>
   by_cases h:l.length+m.length≤1000000
   ·exact⟨l,m,rfl,rfl,h,(Option.some.inj ((if_pos h).symm.trans e)).symm⟩
   ·cases (if_neg h).symm.trans e
  | _=>cases e
 | _=>cases e
theorem zgN (ha:XE X cl E a fa)(hb:XE X cl E b fb):XL X cl E (.BinOp a .Add b pos) (fL2 zf8 fa fb):=by
 obtain⟨t,pt,rt⟩:=ha.ex
 obtain⟨u,pu,ru⟩:=hb.ex
 refine⟨_,zkf zjC pt pu,fun H0 F0 ρ σ H F Q R o=>rt H0 F0 ρ σ H F _ R (OutE.fstA o fun d v H1 F1 g q o1=>?_)⟩
 refine ru H0 F0 ρ σ H1 F1 _ (R.grow g) (OutE.fstA o1 fun d2 v2 H2 F2 g2 q2 o2=>?_)
 obtain⟨z,hz,k⟩:=o2.lf
 have fh:=(R.grow (g.trans g2)).fh
 have q':=q.mono g2.ff
 obtain⟨l,m,rfl,rfl,hl,rfl⟩:=zio hz
 cases q' with
 | lst sq dq =>
  cases q2 with
  | lst sq2 dq2=>exact⟨_,_,_,_,rfl,rfl,fh.seq sq,fh.seq sq2,sz6 (by rw[dq.length,dq2.length];exact hl),fun p hp=>k _ _ _ (Gr.refl fh) (dq.append dq2) p hp⟩
end
end L2
namespace L2
open PySem PySem.Spec PyProof.Rows
def zcQ (K:PySem.W.Frag):Sp:=fun vs H Q _=>∃(a:Addr) (ns:List Int),vs=[.ref a]∧SqL K H a (ns.map V.int)∧ns.length≤63∧∀H',Q (.bl true) H'
theorem ziJ {K:PySem.W.Frag}{cl:Nat→Addr}{fn:List D→Rs D}(h:∀ns:List Int,ns.length≤63→fn [.lst (ns.map .int)]=.ok (.bl true)){vs:List V}{H:Hp}{Q:VK}{E E':XK}(hs:zcQ K vs H Q E):spD K cl fn 1 vs H Q E':=by
 obtain⟨a,ns,rfl,sq,hl,k⟩:=hs
 refine⟨H,[.lst (ns.map .int)],Same.refl _,.cons (.lst sq (zaV fun i _=>.int i)) .nil,rfl,?_⟩
 rw[h ns hl]
 intro v H' F' g q
 cases q
 exact k H'
theorem zli {P:Program}{w:World}{K:PySem.W.Frag}{mg:Str→Option Value}{base:Heap}{cl:Nat→Addr}{fn:List D→Rs D}{k:Nat}{f:Addr}{fd:FuncData}{ps:List Str}(G:FnOk P w K mg base (CX1 P w) k f fd ps (spD K cl fn 1))(h:∀ns:List Int,ns.length≤63→fn [.lst (ns.map .int)]=.ok (.bl true)):FnOk P w K mg base CX0 k f fd ps (zcQ K) where
 len:=fun vs H Q E hs=>G.len vs H Q E (ziJ h hs)
 run:=fun A outer s H args us vs Q E hr e0 bt vl hs=>by
  refine codeAny_mono (G.run A outer s H args us vs Q E0 hr e0 bt vl (ziJ (E:=E) h hs)) fun r s' q=>?_
  cases r with
  | error e =>
   obtain⟨a,C,a0,H',B,_,_,_,_,_,_,_,_,_,_,_,z⟩:=(show zdw P w outer H s E0 e s' from q)
   exact z.elim
  | ok fl=>cases fl <;>exact q
theorem zgd {α:Type}{us:List α}(h:us.length=1):∃a,us=[a]:=List.length_eq_one_iff.mp h
theorem zdD {α:Type}{us:List α}(h:us.length=2):∃a b,us=[a,b]:=by
 cases us with
 | nil=>cases h
 | cons a t=>obtain⟨b,rfl⟩:=zgd (Nat.succ.inj h);exact⟨a,b,rfl⟩
theorem zj3 {α:Type}{us:List α}(h:us.length=3):∃a b c,us=[a,b,c]:=by
 cases us with
 | nil=>cases h
 | cons a t=>obtain⟨b,c,rfl⟩:=zdD (Nat.succ.inj h);exact⟨a,b,c,rfl⟩
theorem zlX {α:Type}{us:List α}(h:us.length=4):∃a b c d,us=[a,b,c,d]:=by
 cases us with
 | nil=>cases h
 | cons a t=>obtain⟨b,c,d,rfl⟩:=zj3 (Nat.succ.inj h);exact⟨a,b,c,d,rfl⟩
theorem znk {α:Type}{us:List α}(h:us.length=5):∃a b c d e,us=[a,b,c,d,e]:=by
 cases us with
 | nil=>cases h
 | cons a t=>obtain⟨b,c,d,e,rfl⟩:=zlX (Nat.succ.inj h);exact⟨a,b,c,d,e,rfl⟩
end L2
namespace L2
open PySem PySem.Spec PyProof.Rows
def za1 (ds:List (List Nat×D))(k:List Nat):Option D:=(ds.find? fun kv=>decide (kv.1=k)).map (·.2)
def getD:D→D→Option D
 | .dct ds,.str k=>za1 ds k
 | _,_=>none
def zk7 (neg:Bool):D→D→Option D
 | .str k,.dct ds=>some (.bl (if neg then !(za1 ds k).isSome else(za1 ds k).isSome))
 | _,_=>none
theorem Dks.val {K:PySem.W.Frag}{cl:Nat→Addr}{F:Hp}{k:List Nat}:∀{vs:List (Key×V)}{ds:List (List Nat×D)},Dks K cl F vs ds→match za1 ds k with|some d=>∃v,zc1 vs (Sum.inr (T k):Key)=some v∧Dt K cl F v d|none=>zc1 vs (Sum.inr (T k):Key)=none
 | _,_,.nil=>rfl
 | _, _,.cons (l:=l) (v:=v) (d:=d) (vs:=vs) (ds:=ds) ok q r=>by
  have ih:=Dks.val (k:=k) r
  by_cases h:l=k
  ·subst h
   have e1:za1 ((l,d)::ds) l=some d:=by simp[za1]
   rw[e1]
   exact⟨v,by simp[zc1],q⟩
  ·have h':¬((Sum.inr (T l):Key)=Sum.inr (T k)):=fun z=>by injection z with z;exact h (zfm z)
   have e1:za1 ((l,d)::ds) k=za1 ds k:=by simp[za1,h]
   have e2:zc1 ((Sum.inr (T l),v)::vs) (Sum.inr (T k):Key)=zc1 vs (Sum.inr (T k):Key):=by
    unfold zc1
    rw[List.find?_cons_of_neg (by simpa using h')]
   rw[e1,e2]
   exact ih
section
variable {X:Cx}{cl:Nat→Addr}{E:XK}{e o a b:Expr}{es:List Expr}{fa fb:Rho→Rs D}{fs:Rho→Rs (List D)}{x:Str}{p pos:Pos}
theorem zim {a b d:D}(e:getD a b=some d):∃ds k,a=.dct ds∧b=.str k∧za1 ds k=some d:=by
 cases a with
 | dct ds =>
  cases b with
  | str k=>exact⟨ds,k,rfl,rfl,e⟩
  | _=>cases e
 | _=>cases e
theorem zhY {neg:Bool}{a b d:D}(e:zk7 neg a b=some d):∃k ds,a=.str k∧b=.dct ds∧d=.bl (if neg then !(za1 ds k).isSome else(za1 ds k).isSome):=by
 cases a with
 | str k =>
  cases b with
  | dct ds=>exact⟨k,ds,rfl,rfl,(Option.some.inj e).symm⟩
  | _=>cases e
 | _=>cases e
theorem Dt.dctE {K:PySem.W.Frag}{F:Hp}{v:V}{ds:List (List Nat×D)}(q:Dt K cl F v (.dct ds)):∃(a:Addr) (kvs:List (Key×V)),v=.ref a∧F a=some (.dK kvs)∧Dks K cl F kvs ds:=by
 cases q with|dct h k=>exact⟨_,_,rfl,h,k⟩
theorem zlb (hu:X.A.units+1<cLine)(ha:XE X cl E a fa)(hb:XE X cl E b fb)(hs:zmj b:=by intro _ _;rfl):XE X cl E (.Subscript a b pos) (f2 getD fa fb):=by
 obtain⟨t,pt,rt⟩:=ha.ex
 obtain⟨u,pu,ru⟩:=hb.ex
 refine XE'.out ⟨_,zjN hu pt pu hs,fun H0 F0 ρ σ H F Q R o=>rt H0 F0 ρ σ H F _ R (OutE.fst o fun d v H1 F1 g1 q o1=>?_)⟩
 refine ru H0 F0 ρ σ H1 F1 _ (R.grow g1) (OutE.fst o1 fun e w H2 F2 g2 q2 o2=>?_)
 obtain⟨z,hz,k⟩:=o2.lf
 have fh:=(R.grow (g1.trans g2)).fh
 have q':=q.mono g2.ff
 obtain⟨ds,key,rfl,rfl,hz'⟩:=zim hz
 obtain⟨ad,kvs,rfl,hd,hk⟩:=q'.dctE
 obtain⟨rfl,ok⟩:=q2.strE
 have hv:=hk.val (k:=key)
 rw[hz'] at hv
 obtain⟨v,e1,e2⟩:=hv
 exact⟨ad,v,rfl,e1▸DGet.k (k:=Sum.inr (T key)) (fh _ _ hd),k _ _ _ (Gr.refl fh) e2⟩
theorem zkW {K:PySem.W.Frag}{F H:Hp}{ad:Addr}{kvs:List (Key×V)}{ds:List (List Nat×D)}{key:List Nat}(hk:Dks K cl F kvs ds):(zc1 kvs (Sum.inr (T key):Key)).isSome=(za1 ds key).isSome:=by
 have hv:=hk.val (k:=key)
 cases h:za1 ds key with
 | none=>rw[h] at hv;dsimp only at hv;rw[hv];rfl
 | some d=>rw[h] at hv;obtain⟨v,e,_⟩:=hv;rw[e];rfl
theorem zfs (hu:X.A.units+1<cLine)(ha:XE X cl E a fa)(hb:XE X cl E b fb)(hm:behindInMarks .NotIn b=false:=by rfl):XT X cl E (.Compare a [.NotIn] [b] pos) (bT (f2 (zk7 true) fa fb)):=by
 obtain⟨t,pt,rt⟩:=ha.ex
 obtain⟨u,pu,ru⟩:=hb.ex
 refine XT'.out ⟨_,ziQ (zfL hu pt pu) hm,fun H0 F0 ρ σ H F Q R o=>rt H0 F0 ρ σ H F _ R (OutE.fst (OutB.bT R o) fun d v H1 F1 g1 q o1=>?_)⟩
 refine ru H0 F0 ρ σ H1 F1 _ (R.grow g1) (OutE.fst o1 fun e w H2 F2 g2 q2 o2=>?_)
 obtain⟨z,hz,k⟩:=o2.lf
 have fh:=(R.grow (g1.trans g2)).fh
 obtain⟨key,ds,rfl,rfl,rfl⟩:=zhY hz
 obtain⟨rfl,ok⟩:=q.strE
 obtain⟨ad,kvs,rfl,hd,hk⟩:=q2.dctE
 refine⟨ad,_,rfl,DGet.k (k:=Sum.inr (T key)) (fh _ _ hd),?_⟩
 have:=k _ _ _ (Gr.refl fh) (.bl _)
 rw[zkW (H:=H2) (ad:=ad) hk]
 exact this
def zkw (ks:List (List Nat))(ds:List D):List (List Nat×D):=(List.range (min ks.length ds.length)).foldl (fun m j=>putD m (ks.getD j []) (ds.getD j .non)) []
def zmd:D→Option (List D)
 | .lst ds=>some ds
 | .tup ds=>some ds
 | _=>none
def zfp (a b:D):Option D:=match zmd a,zmd b with
 | some ks,some ds=>if ks.all isS=true∧ks.length≤1000 then some (.dct (zkw (ks.map unS) ds)) else none
 | _,_=>none
theorem Dts.getDt {K:PySem.W.Frag}{F:Hp}:∀{vs:List V}{ds:List D} (_:Dts K cl F vs ds) (j:Nat),j<ds.length→Dt K cl F (vs.getD j .non) (ds.getD j .non):=by
 intro vs ds
 induction ds generalizing vs with
 | nil=>intro _ j h;cases h
 | cons d ds ih =>
  intro q j h
  cases q with
  | cons r t =>
   cases j with
   | zero=>exact r
   | succ j=>exact ih t j (Nat.lt_of_succ_lt_succ h)
theorem zki {K:PySem.W.Frag}{F:Hp}{ks:List (List Nat)}{vs:List V}{ds:List D}(hk:∀x∈ks,TxtOk (T x))(q:Dts K cl F vs ds):Dks K cl F (zku ks vs) (zkw ks ds):=by
 have key:∀(js:List Nat) (m:List (Key×V)) (n:List (List Nat×D)),(∀j∈js,j<ks.length∧j<ds.length)→Dks K cl F m n →
   Dks K cl F (js.foldl (fun m j=>putK m (Sum.inr (T (ks.getD j []))) (vs.getD j .non)) m) (js.foldl (fun m j=>putD m (ks.getD j []) (ds.getD j .non)) n):=by
  intro js
  induction js with
  | nil=>exact fun m n _ h=>h
  | cons j js ih =>
   intro m n h hm
   rw[List.foldl_cons,List.foldl_cons]
   obtain⟨h1,h2⟩:=h j (.head _)
   refine ih _ _ (fun i hi=>h i (.tail _ hi)) (hm.put (hk _ ?_) (q.getDt j h2))
   rw[List.getD_eq_getElem?_getD,List.getElem?_eq_getElem h1]
   exact List.getElem_mem h1
 unfold zku zkw
 rw[q.length]
 exact key _ _ _ (fun j hj=>by have:=List.mem_range.mp hj;omega) .nil
theorem Dt.seq {K:PySem.W.Frag}{F:Hp}{v:V}{d:D}{ds:List D}(q:Dt K cl F v d)(e:zmd d=some ds):∃(a:Addr) (vs:List V),v=.ref a∧(SqL K F a vs∨SqT K F a vs)∧Dts K cl F vs ds:=by
 cases q with
 | lst sq dq=>obtain rfl:=Option.some.inj e;exact⟨_,_,rfl,.inl sq,dq⟩
 | tup sq dq=>obtain rfl:=Option.some.inj e;exact⟨_,_,rfl,.inr sq,dq⟩
 | _=>cases e
theorem zfg {p1 p2 pos1 pos2:Pos}(hc:X.calm=true)(hd:Gl X "dict")(md:X.mg "dict" = none)(hz:Gl X "zip")(mz:X.mg "zip" = none)(ha:XE X cl E a fa)(hb:XE X cl E b fb)
  (hs:starEach [a,b] X.env=[(false,eval a X.env),(false,eval b X.env)]:=by rfl) (hs2:starEach [b] X.env=[(false,eval b X.env)]:=by rfl)
  (hs3:starEach [.Call (.Name "zip" p2) [a,b] [] pos2] X.env=[(false,eval (.Call (.Name "zip" p2) [a,b] [] pos2) X.env)]:=by rfl) :
  XE X cl E (.Call (.Name "dict" p1) [.Call (.Name "zip" p2) [a,b] [] pos2] [] pos1) (f2 zfp fa fb):=by
 obtain⟨t,pt,rt⟩:=ha.ex
 obtain⟨u,pu,ru⟩:=hb.ex
 refine XE'.out ⟨_,zdW hc pt pu hd hz md mz hs hs2 hs3,fun H0 F0 ρ σ H F Q R o=>?_⟩
 unfold zld jC
 refine rt H0 F0 ρ σ H F _ R (OutE.fst o fun d v H1 F1 g1 q o1=>?_)
 refine ru H0 F0 ρ σ H1 F1 _ (R.grow g1) (OutE.fst o1 fun e w H2 F2 g2 q2 o2=>?_)
 obtain⟨z,hz,k⟩:=o2.lf
 have fh:=(R.grow (g1.trans g2)).fh
 have q':=q.mono g2.ff
 unfold zfp at hz
 split at hz
 ·rename_i ks ds ek ed
  split at hz
  ·rename_i h
   obtain rfl:=Option.some.inj hz
   obtain⟨A1,vs1,rfl,s1,d1⟩:=q'.seq ek
   obtain⟨A2,vs2,rfl,s2,d2⟩:=q2.seq ed
   obtain⟨e1,e2,e3⟩:=d1.texts h.1
   subst e1
   refine⟨ks.map unS,A1,A2,vs2,rfl,s1.imp fh.seq fh.seqT,s2.imp fh.seq fh.seqT,by rw[List.length_map];exact h.2,fun p hp=>k _ _ _ (Gr.new fh hp) ?_⟩
   exact .dct yg ((zki e2 d2).mono (Same.upd (fh.free hp)))
  ·cases hz
 ·cases hz
def zgc:D→D→Option D
 | .lst ds,.str k=>if ds.all isS=true∧ds.length≤1000∧k∈ds.map unS then some (.int ((ds.map unS).idxOf k:Nat)) else none
 | .tup ds,.str k=>if ds.all isS=true∧ds.length≤1000∧k∈ds.map unS then some (.int ((ds.map unS).idxOf k:Nat)) else none
 | _,_=>none
def ziM:D→Bool
 | .lst _=>true
 | _=>false
def zm4:D→Bool
 | .tup _=>true
 | _=>false
theorem zcF {ls:List (List Nat)}{k:List Nat}(h:k∈ls):uD (.str (T k))=true∧(vT ls).all uD=true∧(vT ls)[ls.idxOf k]? = some (.str (T k))∧eqV (.str (T k)) (.str (T k))=true ∧
  ∀(m:Nat) (w:V),m<ls.idxOf k→(vT ls)[m]? = some w→eqV w (.str (T k))=false:=by
 have hl:=List.idxOf_lt_length_of_mem h
 have key:∀x,eqV (.str (T x)) (.str (T k))=(x == k):=fun x=>zjs x k
 refine⟨rfl,?_,?_,?_,?_⟩
 ·unfold vT;simp[uD]
 ·unfold vT
  rw[List.getElem?_map,List.getElem?_eq_getElem hl,List.getElem_idxOf hl];rfl
 ·rw[key];simp
 ·intro m w hm hw
  unfold vT at hw
  have hml:m<ls.length:=by omega
  rw[List.getElem?_map,List.getElem?_eq_getElem hml] at hw
  obtain rfl:=Option.some.inj hw
  have hne:ls[m]≠k:=by
   have:=List.not_of_lt_findIdx (p:=(· == k)) (xs:=ls) (i:=m) hm
   simpa using this
  show eqV (.str (T ls[m])) (.str (T k))=false
  rw[key];simp[hne]
def zm7 (K:PySem.W.Frag)(r:V→List V→Hp→VK→Prop)(to:TE)(t:TA):TE:=fun σ H Q=>to σ H fun x H1=>(∃(a:Addr) (xs:List V),x=.ref a∧SqT K H1 a xs)∧t σ H1 fun xs H2=>r x xs H2 Q
theorem zlB {to:TE}{t:TA}{name:Str}{apos cpos:Pos}{id:String}{r:V→List V→Hp→VK→Prop}(pa:PlainAttrs "tuple")(slot:Slot "tuple" name id)(hty:typeOf (.builtin id)=pure (.type "method_descriptor"))(hm:MtR X id r)(ho:PE X o to)(ha:PA X (e::es) t)
  (hbase:attributeBase o name X.env (eval o X.env)=eval o X.env)
  (hfew:((backTo cpos (starEach (e::es) X.env)).all (fun x=>!x.1)&&(backToKw cpos (keywordEach [] X.env)).all (fun x=>x.1.isSome)
   && decide ((e::es).length+([]:List Keyword).length+(if ([]:List Keyword).isEmpty then 0 else 1)<30))=true)
  (hline:(apos.endLine == cpos.line)=true) (hs:starEach (e::es) X.env=(false,eval e X.env)::starEach es X.env) (hplain:(backTo cpos (starEach es X.env)).any (·.1)=false) :
  PE X (.Call (.Attribute o name apos) (e::es) [] cpos) (zm7 X.K r to t):=by
 intro pins s σ H Q I h
 refine wpAny_Call_method_late hbase hfew hline rfl (thn (ho pins s σ H _ I h) fun v s1 hq38=>?_)
 obtain⟨x,H1,I1,r1,ty,q1⟩:=hq38
 obtain⟨ad,xs,rfl,sq⟩:=ty
 cases r1
 obtain⟨ob,e1,c1,d1⟩:=I1.noDict sq
 refine⟨"tuple", id,pa,slot,hty,⟨ob,e1,c1⟩,fun a z=>by cases z;exact⟨ob,e1,d1⟩,?_⟩
 have hA:=ha cpos pins s1 σ H1 _ I1 q1
 rw[hs] at hA ⊢
 refine Calls.callWith_builtin (by show(false || (backTo cpos (starEach es X.env)).any (·.1))=false;rw[hplain] <;>rfl) (Calls.evalArgs_plain ?_)
 exact thn hA fun us s2 ⟨vs,H2,I2,r2,q2⟩=>hm pins s2 σ H2 (.ref ad) vs (.ref ad) us Q I2 rfl r2 q2
theorem zj0 {apos cpos:Pos}(ho:XE X cl E o fa)(ha:XE X cl E e fb)(m:Mth X o e "index" apos cpos):XE X cl E (.Call (.Attribute o "index" apos) [e] [] cpos) (fM zm4 zgc fa fb):=by
 obtain⟨t,pt,rt⟩:=ho.ex
 obtain⟨u,pu,ru⟩:=ha.ex
 refine XE'.out ⟨_,zlB PySem.F.plainAttrs_tuple PySem.F.slot_tuple_index PySem.F.type_tuple_index zfG pt (wA pu uX m.hs) m.base m.few m.line m.hs m.plain,fun H0 F0 ρ σ H F Q R o=>rt H0 F0 ρ σ H F _ R (OutE.fst o fun d v H1 F1 g1 q o1=>?_)⟩
 split at o1
 ·rename_i hd
  cases q with
  | tup sq dq =>
   rename_i ad xs ds
   refine⟨⟨ad,xs,rfl,(R.grow g1).fh.seqT sq⟩,ru H0 F0 ρ σ H1 F1 _ (R.grow g1) (OutE.fst o1 fun d2 v2 H2 F2 g2 q2 o2=>?_)⟩
   obtain⟨z,hz,k⟩:=o2.lf
   have fh:=(R.grow (g1.trans g2)).fh
   cases q2 with
   | str key ok2 =>
    dsimp only [zgc] at hz
    split at hz
    ·rename_i h
     obtain rfl:=Option.some.inj hz
     obtain⟨e1,e2,e3⟩:=dq.texts h.1
     subst e1
     obtain⟨a1,a2,a3,a4,a5⟩:=zcF h.2.2
     exact⟨ad,_,_,_,_,rfl,rfl,fh.seqT (g2.ff.seqT sq),a1,a2,a3,a4,a5,k _ _ _ (Gr.refl fh) (.int _)⟩
    ·cases hz
   | _=>cases hz
  | _=>cases hd
 ·exact o1.elim
theorem zja {apos cpos:Pos}(ho:XE X cl E o fa)(ha:XE X cl E e fb)(m:Mth X o e "index" apos cpos):XE X cl E (.Call (.Attribute o "index" apos) [e] [] cpos) (fM ziM zgc fa fb):=by
 obtain⟨t,pt,rt⟩:=ho.ex
 obtain⟨u,pu,ru⟩:=ha.ex
 refine XE'.out ⟨_,zd8 PySem.F.plainAttrs_list PySem.F.slot_list_index PySem.F.type_list_index zdz pt (wA pu uX m.hs) m.base m.few m.line m.hs m.plain,fun H0 F0 ρ σ H F Q R o=>rt H0 F0 ρ σ H F _ R (OutE.fst o fun d v H1 F1 g1 q o1=>?_)⟩
 split at o1
 ·rename_i hd
  cases q with
  | lst sq dq =>
   rename_i ad xs ds
   refine⟨.inl ⟨rfl,xs,(R.grow g1).fh.seq sq⟩,ru H0 F0 ρ σ H1 F1 _ (R.grow g1) (OutE.fst o1 fun d2 v2 H2 F2 g2 q2 o2=>?_)⟩
   obtain⟨z,hz,k⟩:=o2.lf
   have fh:=(R.grow (g1.trans g2)).fh
   cases q2 with
   | str key ok2 =>
    dsimp only [zgc] at hz
    split at hz
    ·rename_i h
     obtain rfl:=Option.some.inj hz
     obtain⟨e1,e2,e3⟩:=dq.texts h.1
     subst e1
     obtain⟨a1,a2,a3,a4,a5⟩:=zcF h.2.2
     have:=List.idxOf_lt_length_of_mem h.2.2
     rw[List.length_map] at this
     exact⟨ad,_,_,_,_,rfl,rfl,fh.seq (g2.ff.seq sq),a1,a2,a3,a4,by omega,a5,k _ _ _ (Gr.refl fh) (.int _)⟩
    ·cases hz
   | _=>cases hz
  | _=>cases hd
 ·exact o1.elim
end
def zkx:List D→Option D
 | [.int i]=>if 0≤i∧i≤9 then some (.str [48+i.toNat]) else none
 | _=>none
def maxD:List D→Option D
 | [.int i,.int j]=>some (.int (if j > i then j else i))
 | _=>none
section
variable {K:PySem.W.Frag}{cl:Nat→Addr}
theorem n_str:Fn1 K cl (fun xs H Q=>∃i,xs=[.int i]∧i.natAbs.log2<1920∧Q (.str (toString i)) H) zkx:=fun F H vs ds d Q s q e k=>by
 match ds,q,e with
 | [.int i],q,e =>
  obtain⟨v,rfl,q1⟩:=q.one
  cases q1
  dsimp only [zkx] at e
  split at e
  ·rename_i h
   obtain rfl:=Option.some.inj e
   obtain⟨n,rfl⟩:=Int.eq_ofNat_of_zero_le h.1
   have key:∀n<10,((toString ((n:Nat):Int):String):Str)=T [48+n]∧((n:Nat):Int).natAbs.log2<1920:=by decide +kernel
   have hn:n<10:=by omega
   refine⟨_,rfl,(key n hn).2,?_⟩
   have:=k (.str (T [48+n])) _ _ (Gr.refl s) (.str _ (uV (fun c hc=>by rw[List.mem_singleton.mp hc];omega) (by show 1≤_;decide)))
   rw[(key n hn).1]
   exact this
  ·cases e
def LI2 (f:Int→Int→Option D):List D→Option D
 | [.int i,.int j]=>f i j
 | _=>none
theorem zkd {f:Int→Int→Option D}{ds:List D}{d:D}(e:LI2 f ds=some d):∃i j,ds=[.int i,.int j]∧f i j=some d:=by
 cases ds with
 | nil=>cases e
 | cons a t =>
  cases a with
  | int i =>
   cases t with
   | nil=>cases e
   | cons b t =>
    cases b with
    | int j =>
     cases t with
     | nil=>exact⟨i,j,rfl,e⟩
     | cons _ _=>cases e
    | _=>cases e
  | _=>cases e
theorem n_max:Fn1 K cl (fun xs H Q=>∃i j,xs=[.int i,.int j]∧Q (.int (if j > i then j else i)) H) maxD:=fun F H vs ds d Q s q e k=>by
 obtain⟨i,j,rfl,e1⟩:=zkd (f:=fun i j=>some (.int (if j > i then j else i))) e
 obtain⟨v,w,rfl,q1,q2⟩:=q.two
 obtain rfl:=q1.intE
 obtain rfl:=q2.intE
 obtain rfl:=Option.some.inj e1
 exact⟨_,_,rfl,k _ _ _ (Gr.refl s) (.int _)⟩
end
end L2
namespace L2
open PySem PySem.Spec PyProof.Rows
section
variable {X:Cx}{cl:Nat→Addr}{E:XK}{a b e:Expr}{fa fb:Rho→Rs D}{pos:Pos}{st:Stmt}{g:Rho→Out}
end
end L2
namespace L2
open PySem PySem.Spec PyProof.Rows
section
variable {X:Cx}{cl:Nat→Addr}{E:XK}{a b e:Expr}{fa fb:Rho→Rs D}{pos:Pos}
theorem Dts.rep {K:PySem.W.Frag}{F:Hp}{vs:List V}{ds:List D}(q:Dts K cl F vs ds):∀n:Nat,Dts K cl F (List.replicate n vs).flatten (List.replicate n ds).flatten
 | 0=>.nil
 | n+1=>by
  rw[List.replicate_succ,List.replicate_succ,List.flatten_cons,List.flatten_cons]
  exact q.append (Dts.rep q n)
end
end L2
namespace L2
open PySem PySem.Spec PyProof.Rows
end L2
namespace L2
open PySem PySem.Spec PyProof.Rows
end L2
namespace L2
open PySem PySem.Spec PyProof.Rows
structure XEw (X:Cx)(cl:Nat→Addr)(E:XK)(e:Expr)(f:Rho→Rs D):Prop where
 out:XE X cl E e f
structure XAw (X:Cx)(cl:Nat→Addr)(E:XK)(es:List Expr)(f:Rho→Rs (List D)):Prop where
 out:XA X cl E es f
section
variable {X:Cx}{cl:Nat→Addr}{E:XK}{e:Expr}{es:List Expr}{f:Rho→Rs D}{fs:Rho→Rs (List D)}{pos:Pos}
theorem uW:XAw X cl E [] zA:=⟨zu⟩
theorem ye (h1:XEw X cl E e f)(h2:XAw X cl E es fs)(hs:starEach (e::es) X.env=(false,eval e X.env)::starEach es X.env):XAw X cl E (e::es) (zb f fs):=⟨zc h1.out h2.out hs⟩
theorem zfX (h:XAw X cl E es fs):XEw X cl E (.List es pos) (fO mkL fs):=⟨zam h.out⟩
theorem jg {x1}(h:XAw X cl E es fs):XEw X cl E (.Tuple es x1 pos) (fO mkT fs):=⟨zeE h.out⟩
theorem je {x:Str}{j}{l:List Nat}(h:x=T l)(ok:TxtOk (T l)):XEw X cl E (.Constant (.str x) j pos) (fC (.str l)):=⟨yU h ok⟩
theorem ziT {j}:XEw X cl E (.Constant .none j pos) (fC .non):=⟨jG⟩
theorem zbe {i j}:XEw X cl E (.Constant (.int i) j pos) (fC (.int i)):=⟨zE⟩
theorem zmD {b j}:XEw X cl E (.Constant (.bool b) j pos) (fC (.bl b)):=⟨zad⟩
end
end L2
namespace L2
open PySem PySem.Spec PyProof.Rows
end L2
namespace L2
open PySem PySem.Spec PyProof.Rows
end L2
namespace L2
open PySem PySem.Spec PyProof.Rows
end L2
namespace L2
open PySem PySem.Spec PyProof.Rows
theorem zgZ (l:Addr)(items:Array Value)(n:Nat)(dd:Option Addr)(sl:Array (Option Value))(x:Int)(u:Tok)(hc0:¬(!Builtin.List.listFitsIndex x)=true)(hc1:¬items.size*x.toNat > (2 ^ 63 - 1) / 8)(hc2:¬Builtin.List.listTooLong (items.size*x.toNat)=true) :
  Meets (Builtin.«list.__mul__» ⟨[.ref l,.int x u],[]⟩) (fun _ R s=>s.heap.get? l=some {cls:=.type "list", dict:=dd,data:=.seq items n,slots:=sl}∧R (.ok (.ret (Value.ref s.heap.objs.size))) {s with heap:=s.heap.push {cls:=Value.type "list", data:=Data.seq (List.foldl (fun x1 x2=>x1++x2) #[] (List.replicate (if items.isEmpty=true then 0 else x.toNat) items))},toks:=s.toks}) :=
 .of_wp fun prog w A R s h=>by
  obtain⟨hp,g,d,tk,os⟩:=s;obtain⟨hl,h⟩:=h
  have hsz:=AutoListH.joined_fits hc2
  wp_walk;refine wpAny_ite_false (decide_eq_false (Nat.not_lt.mpr hsz)) ?_;wp_walk;exact⟨_,rfl,h⟩
theorem zfH (a:Int)(t:Tok)(l:Addr)(items:Array Value)(n:Nat)(dd:Option Addr)(sl:Array (Option Value)) :
  Meets (Builtin.«int.__rmul__» ⟨[.int a t,.ref l],[]⟩) (fun _ R s=>s.heap.get? l=some {cls:=.type "list", dict:=dd,data:=.seq items n,slots:=sl}∧R (.ok (.ret Value.notImplemented)) s) :=
 .of_wp fun prog w A R s h=>by obtain⟨hp,g,d,tk,os⟩:=s;obtain⟨hl,h⟩:=h;wp_walk;exact⟨_,rfl,h⟩
def zmu (K:PySem.W.Frag):R2:=fun x y H Q=>∃l k xs,x=.ref l∧y=.int k∧SqL K H l xs∧-(2 ^ 63)≤k∧k<2 ^ 63∧xs.length*k.toNat≤sizeLine ∧
 ∀p,H p=none→Q (.ref p) (upd H p (.lst (List.replicate k.toNat xs).flatten))
section
variable {X:Cx}{cl:Nat→Addr}{E:XK}{a b:Expr}{fa fb:Rho→Rs D}{pos:Pos}
theorem zj7:OpR X (binaryOp .Mult) (zmu X.K):=by
 intro pins s σ H x y v u Q I rx ry h
 obtain⟨l,k,xs,rfl,rfl,hH,h1,h2,hz,q⟩:=h
 cases rx
 obtain⟨t,rfl⟩:=ry
 obtain⟨its,r,⟨o,n,e,hc,hdd,hd⟩,z⟩:=I.list hH
 obtain⟨cls,dd,data,sl⟩:=o
 simp only at hc hd
 subst hc hd
 have hl:=r.length
 have hlen:its.toArray.size*k.toNat≤sizeLine:=by rw[List.size_toArray,← hl];exact hz
 have hcap:¬its.toArray.size*k.toNat > (2 ^ 63 - 1) / 8:=by
  have:(sizeLine:Nat)≤(2 ^ 63 - 1) / 8:=by decide
  omega
 have hfit:¬(!Builtin.List.listFitsIndex k)=true:=by
  rw[fitsIndex_both h1 h2]
  exact Bool.false_ne_true
 have hlong:¬Builtin.List.listTooLong (its.toArray.size*k.toNat)=true:=by
  rw[zik hlen]
  exact Bool.false_ne_true
 have hnew:List.foldl (fun x1 x2=>x1++x2) #[] (List.replicate (if its.toArray.isEmpty=true then 0 else k.toNat) its.toArray)=(List.replicate k.toNat its).flatten.toArray:=by
  have f0:∀m:Nat,List.foldl (fun x1 x2=>x1++x2) #[] (List.replicate m its.toArray)=(List.replicate m its).flatten.toArray:=fun m=>by
   have:=foldl_rep its m []
   rw[List.nil_append] at this
   exact this
  rw[f0]
  cases its with
  | nil=>simp
  | cons a r'=>rw[if_neg (by simp)]
 refine wpAny_binaryOp_repeat_ref (T := "list") (U := "int") (by decide) ⟨_,e,rfl⟩ (fun s'=>typeIs_int s' k t) noFill_list_mul F.fills_int_mul F.slot_int_rmul repeat_list F.slot_int_index.lookup
  (call_meets F.slot_int_rmul (typeIs_int s k t) F.entry_int_rmul (F.args_int_rmul_2 _ _) (zfH k t l its.toArray n dd sl)
   ⟨e,rfl,⟨_,e,rfl⟩,call_meets F.slot_list_mul ⟨_,e,rfl⟩ F.entry_list_mul (F.args_list_mul_2 _ _) (zgZ l its.toArray n dd sl k t hfit hcap hlong) ⟨e,?_⟩⟩)
 rw[hnew]
 exact⟨.ref _,_,I.lnew (t':=s.toks) (r.rep k.toNat) (by rw[len_rep,Nat.mul_comm];exact hz),rfl,q _ I.fresh⟩
theorem zh8 {a b:D}{z:List D}(e:zkb a b=some z):∃l n,a=.lst l∧b=.int n∧0≤n∧n≤1000∧l.length≤1000∧z=(List.replicate n.toNat l).flatten:=by
 cases a with
 | lst l =>
  cases b with
  | int n =>
   by_cases h:0≤n∧n≤1000∧l.length≤1000
   ·exact⟨l,n,rfl,rfl,h.1,h.2.1,h.2.2,(Option.some.inj ((if_pos h).symm.trans e)).symm⟩
   ·exact absurd ((if_neg h).symm.trans e) nofun
  | _=>cases e
 | _=>cases e
theorem zf6 (ha:XE X cl E a fa)(hb:XE X cl E b fb):XL X cl E (.BinOp a .Mult b pos) (fL2 zkb fa fb):=by
 obtain⟨t,pt,rt⟩:=ha.ex
 obtain⟨u,pu,ru⟩:=hb.ex
 refine⟨_,zkf zj7 pt pu,fun H0 F0 ρ σ H F Q R o=>rt H0 F0 ρ σ H F _ R (OutE.fstA o fun d v H1 F1 g q o1=>?_)⟩
 refine ru H0 F0 ρ σ H1 F1 _ (R.grow g) (OutE.fstA o1 fun d2 v2 H2 F2 g2 q2 o2=>?_)
 obtain⟨z,hz,k⟩:=o2.lf
 have fh:=(R.grow (g.trans g2)).fh
 have q':=q.mono g2.ff
 obtain⟨l,n,rfl,rfl,h0,hn,hl,rfl⟩:=zh8 hz
 cases q' with
 | lst sq dq =>
  cases q2 with
  | int =>
   have e1:=dq.length
   have e2:n.toNat≤1000:=by omega
   exact⟨_,_,_,rfl,rfl,fh.seq sq,by omega,by omega,sz6 (Nat.le_trans (Nat.mul_le_mul (e1▸hl) e2) (by decide)),fun p hp=>k _ _ _ (Gr.refl fh) (dq.rep _) p hp⟩
end
end L2
namespace L2
open PySem PySem.Spec PyProof.Rows
def PX (X:Cx)(e:Expr)(t:St→Hp→VK→XK→Prop):Prop:=∀(pins:List (Addr×Obj)) (s:Shared) (σ:St) (H:Hp) (Q:VK) (E:XK) (F':Value→Shared→Prop),Inv X pins σ H s →
 (∀H s e s',Inv X pins σ H s→zdw X.prog X.w X.stack H s E e s'→F' e s')→t σ H Q E→wpAny (model X.prog X.w) X.A (eval e X.env) (EP X pins σ Q) F' s
section
variable {X:Cx}{k:Nat}{f:Addr}{fd:FuncData}{ps:List Str}{sp:Sp}{x y n:Str}{p np cpos rpos hpos pos:Pos}{e c a b:Expr}{es:List Expr}{ta:TA}{tc:TT}{i:Nat}{b₀:Stmt}{suite:List Stmt}{th:TS}{more:List ExceptHandler}{tx ty:St→Hp→VK→XK→Prop}
theorem zka (F:FnOk X.prog X.w X.K X.mg X.base (CX1 X.prog X.w) k f fd ps sp)(hr:Room k X.A)(hg:Gl X y)(hm:X.mg y=some (.ref f))(hk:PySem.W.keepIn X.K (.ref f)=true)(hb:Binds X.K fd ps [])(ha:PA X.nox (e::es) ta)
  (he:starEach (e::es) X.env=(false,eval e X.env)::starEach es X.env) (hdb:(y == ("__debug__" : Str))=false:=by decide) (hpl:(backTo cpos (starEach es X.env)).any (·.1)=false:=by rfl) :
  PX X (.Call (.Name y p) (e::es) [] cpos) (fun σ H Q E=>ta σ H fun vs H1=>sp vs H1 Q E):=by
 intro pins s σ H Q E F' I hx h
 refine wpAny_Call_Name_kw (zab I hg hm ?_ hdb)
 refine PySem.W.callWith_K (h₀:=X.base) I.ok.mod.kin hk (wpAny_mono (ha cpos pins s σ H _ (I.wish _) h) (fun us s1 ⟨vs,H1,I1,r,q⟩=>⟨I1.unwish.kIn,?_⟩) fun _ _ z=>False.elim z) he hpl
 exact zk4 F hr hb hx I1.unwish r q
theorem zl8 (hc:PT X.nox c tc)(ha:PX X a tx)(hb:PX X b ty):PX X (.IfExp c a b pos) (fun σ H Q E=>tc σ H fun d H1=>if d=true then tx σ H1 Q E else ty σ H1 Q E):=by
 intro pins s σ H Q E F' I hx h
 refine wpAny_IfExp (wpAny_mono (hc pins s σ H _ (I.wish _) h) (fun d s1 ⟨H1,I1,q1⟩=>?_) fun _ _ z=>False.elim z)
 cases d with
 | true=>exact ha pins s1 σ H1 Q E F' I1.unwish hx q1
 | false=>exact hb pins s1 σ H1 Q E F' I1.unwish hx q1
end
def zcE {α:Type}(f:Rho→Rs α):Rho→Rs α:=fun ρ=>match f ρ with | .ex _=>.no|r=>r
def XX (X:Cx)(cl:Nat→Addr)(e:Expr)(f:Rho→Rs D):Prop:=PX X e (fun σ H Q E=>∃H0 F0 ρ F,Rl X.K cl H0 F0 ρ σ H F∧OutE X.K cl E H0 F H (f ρ) Q)
theorem PX.mono {X:Cx}{e:Expr}{t u:St→Hp→VK→XK→Prop}(h:PX X e t)(k:∀σ H Q E,u σ H Q E→t σ H Q E):PX X e u:=fun pins s σ H Q E F' I hx q=>h pins s σ H Q E F' I hx (k σ H Q E q)
section
variable {X:Cx}{cl:Nat→Addr}{x:Str}{p pos:Pos}{e c a b:Expr}{es:List Expr}
theorem zd0 {k:Nat}{f:Addr}{fd:FuncData}{ps:List Str}{fn:List D→Rs D}{n:Nat}{fs:Rho→Rs (List D)}(G:FnOk X.prog X.w X.K X.mg X.base (CX1 X.prog X.w) k f fd ps (spD X.K cl fn n))(hr:Room k X.A)(hg:Gl X x)(hm:X.mg x=some (.ref f))(hk:PySem.W.keepIn X.K (.ref f)=true)(hb:Binds X.K fd ps [])
  (ha:XA X.nox cl E0 (e::es) fs) (he:starEach (e::es) X.env=(false,eval e X.env)::starEach es X.env) (hdb:(x == ("__debug__" : Str))=false:=by decide) (hpl:(backTo pos (starEach es X.env)).any (·.1)=false:=by rfl):XX X cl (.Call (.Name x p) (e::es) [] pos) (fA (ari n fn) (zcE fs)):=by
 obtain⟨t,pt,rt⟩:=ha.ex
 refine(zka G hr hg hm hk hb pt he hdb hpl).mono fun σ H Q E ⟨H0,F0,ρ,F,R,o⟩=>rt H0 F0 ρ σ H F _ R ?_
 unfold fA zcE at o
 cases e:fs ρ with
 | ex n=>rw[e] at o;exact o.elim
 | no=>rw[e] at o;exact o.elim
 | ok ds =>
  rw[e] at o
  intro vs H1 F1 g q
  have o1:OutE X.K cl E H0 F H (ari n fn ds) Q:=o
  unfold ari at o1
  split at o1
  ·rename_i hl
   have R1:=R.grow g
   refine⟨F1,ds,R1.fh,q,by rw[q.length,hl],?_⟩
   cases e:fn ds with
   | ok d=>rw[e] at o1;exact fun v H' F' g' q'=>o1 v H' F' (g.trans g') q'
   | ex n=>rw[e] at o1;exact fun H' s=>o1 H' (R1.gr.hh.trans s)
   | no=>rw[e] at o1;exact o1
  ·exact o1.elim
theorem zmB {ft:Rho→Rs Bool}{fa fb:Rho→Rs D}(hc:XT X.nox cl E0 c ft)(ha:XX X cl a fa)(hb:XX X cl b fb):XX X cl (.IfExp c a b pos) (fIf (zcE ft) fa fb):=by
 obtain⟨t,pt,rt⟩:=hc.ex
 refine(zl8 pt ha hb).mono fun σ H Q E ⟨H0,F0,ρ,F,R,o⟩=>rt H0 F0 ρ σ H F _ R ?_
 unfold fIf zcE at o
 cases e:ft ρ with
 | ex n=>rw[e] at o;exact o.elim
 | no=>rw[e] at o;exact o.elim
 | ok d =>
  rw[e] at o
  intro H1 F1 g
  have o1:OutE X.K cl E H0 F H (if d=true then fa ρ else fb ρ) Q:=o
  have up:∀r:Rs D,OutE X.K cl E H0 F H r Q→OutE X.K cl E H0 F1 H1 r Q:=fun r z=>by
   cases r with
   | ok d=>exact fun v H' F' g' q'=>z v H' F' (g.trans g') q'
   | ex n=>exact z
   | no=>exact z
  split
  ·rename_i hd
   rw[if_pos hd] at o1
   exact⟨H0,F0,ρ,F1,R.grow g,up _ o1⟩
  ·rename_i hd
   rw[if_neg hd] at o1
   exact⟨H0,F0,ρ,F1,R.grow g,up _ o1⟩
def zlp (i:Nat)(cs:List Nat)(ef hf:Rho→Rs D):Rho→Out:=fun ρ=>if ρ.all (fun s=>!s.own)=true then(match ef ρ with
 | .ok d=>.rt d
 | .ex n=>if n∈cs then(match hf (ρ.set i (.fz (.exc n))) with | .ok d=>.rt d|_=>.no) else .no
 | .no=>.no) else .no
theorem zeJ {ρ:Rho}(h:ρ.all (fun s=>!s.own)=true){i:Nat}{s:Sl}(e:ρ[i]? = some s):s.own=false:=by
 have:=List.all_eq_true.mp h s (List.mem_of_getElem? e)
 simpa using this
theorem Rl.base {K:PySem.W.Frag}{H0 F0 H F:Hp}{ρ:Rho}{σ:St}(R:Rl K cl H0 F0 ρ σ H F)(h:ρ.all (fun s=>!s.own)=true):Rl K cl H F ρ σ H F where
 gr:=Gr.refl R.fh
 len:=R.len
 fz:=R.fz
 ow:=fun i ds e=>by have:=zeJ h e;cases this
 od:=fun i ds e=>by have:=zeJ h e;cases this
 ap:=R.ap
theorem Gr.exc {F H H':Hp}{a:Addr}{o:HO}(h:Same F H)(s:Same H H')(ha:H' a=none):Gr F H (upd F a o) (upd H' a o):=by
 have hH:H a=none:=by
  cases z:H a with
  | none=>rfl
  | some q=>rw[s a q z] at ha;cases ha
 refine⟨Same.upd (h.free hH),s.trans (Same.upd ha),zek (h.trans s),fun b o hb m q=>?_⟩
 have hne:b≠a:=fun z=>by rw[z,hH] at hb;cases hb
 rw[zU hne];exact q
def zes (P:Nat→Prop)(cs:List Nat):Prop:=∀n∈cs,P n
theorem zhJ {P:Nat→Prop}:zes P []:=fun _ h=>by cases h
theorem jy {P:Nat→Prop}{n:Nat}{r:List Nat}(h:P n)(t:zes P r):zes P (n::r):=fun m z=>by
 rcases List.mem_cons.mp z with z|z
 ·exact z▸h
 ·exact t m z
theorem zno {P:Program}{w:World}{K:PySem.W.Frag}{mg:Str→Option Value}{base:Heap}{x qual:Str}{st:Stmt}{f:Addr}{fd:FuncData}{N ps:List Str}{k m n:Nat}{g:Rho→Out}(Fu:Fun K x qual st f fd)(S:FnScope N ps (zj st))(hm:N.length=m)(hn:ps.length=n)
  (hb:∀(cdv:Value) (A:Around) (outer:List Env) (s:Shared) (H:Hp),Room k ((Around.calm0 A).deeper (envOfC qual (zj st) s.heap.objs.size f cdv))→XSs (zg7 P w K mg base N qual (zj st) f cdv A outer s H) cl E0 (zG st) g):FnOkH P w K mg base (k+1) f fd ps (spD K cl (yx m g) n):=by
 subst hm hn
 refine Fu.okH S (fun vs H Q E h=>h.choose_spec.choose_spec.2.2.1) fun cdv A outer s H vs Q hr h=>?_
 obtain⟨F,ds,sm,dq,hl,o⟩:=h
 refine⟨_,hb cdv A outer s H hr,H,F,_,F,Rl.start (N:=N) sm dq,?_⟩
 unfold yx at o
 cases e:g (ds.map .fz++List.replicate (N.length - ds.length) .no) with
 | nx ρ=>rw[e] at o;exact fun σ H' F' R _=>o .non H' F' R.gr .non
 | rt d=>rw[e] at o;exact fun v H' F' gg q=>o v H' F' gg q
 | bk ρ=>rw[e] at o;exact o.elim
 | ct ρ=>rw[e] at o;exact o.elim
 | ex n=>rw[e] at o;exact o
 | no=>rw[e] at o;exact o
theorem zhX {k:Nat}{f:Addr}{fd:FuncData}{ps:List Str}{fn:List D→Rs D}{n:Nat}{fs:Rho→Rs (List D)}(G:FnOkH X.prog X.w X.K X.mg X.base k f fd ps (spD X.K cl fn n))(hr:RoomH k X.A)(hg:Gl X x)(hm:X.mg x=some (.ref f))(hk:PySem.W.keepIn X.K (.ref f)=true)(hb:Binds X.K fd ps [])
  (ha:XA X cl E0 (e::es) fs) (he:starEach (e::es) X.env=(false,eval e X.env)::starEach es X.env) (hdb:(x == ("__debug__" : Str))=false:=by decide) (hpl:(backTo pos (starEach es X.env)).any (·.1)=false:=by rfl):XE X cl E0 (.Call (.Name x p) (e::es) [] pos) (fA (ari n fn) fs):=by
 obtain⟨t,pt,rt⟩:=ha.ex
 refine XE'.out ⟨_,zh6 G hr hg hm hk hb pt hdb he hpl,fun H0 F0 ρ σ H F Q R o=>rt H0 F0 ρ σ H F _ R (OutA.fst o fun ds vs H1 F1 g q o1=>?_)⟩
 unfold ari at o1
 split at o1
 ·rename_i hl
  rw[List.append_nil]
  have R1:=R.grow g
  refine⟨F1,ds,R1.fh,q,by rw[q.length,hl],?_⟩
  cases e:fn ds with
  | ok d=>rw[e] at o1;exact o1
  | ex n=>rw[e] at o1;exact fun H' s=>o1 H' (R1.gr.hh.trans s)
  | no=>rw[e] at o1;exact o1
 ·exact o1.elim
def zi1 (tab:List (Nat×Bool)):D→Option D
 | .exc n=>(tab.lookup n).map .bl
 | _=>none
def TabOk (P:Nat→Bool→Prop)(tab:List (Nat×Bool)):Prop:=∀n b,(n,b)∈tab→P n b
theorem zaU {P:Nat→Bool→Prop}:TabOk P []:=fun _ _ h=>by cases h
theorem yw {P:Nat→Bool→Prop}{n:Nat}{b:Bool}{r:List (Nat×Bool)}(h:P n b)(t:TabOk P r):TabOk P ((n,b)::r):=fun m c z=>by
 rcases List.mem_cons.mp z with z|z
 ·cases z;exact h
 ·exact t m c z
theorem lookup_mem {n:Nat}{b:Bool}:∀{tab:List (Nat×Bool)},tab.lookup n=some b→(n,b)∈tab
 | (m,c)::r,h=>by
  rw[List.lookup_cons] at h
  split at h
  ·rename_i e
   rw[beq_iff_eq] at e
   cases h
   rw[e];exact .head _
  ·exact .tail _ (lookup_mem h)
theorem zbl {E:XK}{fa:Rho→Rs D}{tab:List (Nat×Bool)}{v:V}(hk:TabOk (fun n b=>ExcK X.K (cl n)∧((∃C',v=.ref C'∧PySem.W.kitOne X.K (.ref (cl n)) (.ref C')=some b)∨(∃t,v=.ty t∧PySem.W.kitOne X.K (.ref (cl n)) (.type t)=some b))) tab)(hg:Gl X "isinstance")(hm:X.mg "isinstance" = none)(ha:XE X cl E e fa)(hb:PE X b (tC v))(h1:starEach [e,b] X.env=(false,eval e X.env)::starEach [b] X.env)(h2:starEach [b] X.env=(false,eval b X.env)::starEach [] X.env:=by rfl)(hpl:(backTo pos (starEach [b] X.env)).any (·.1)=false:=by rfl):XE X cl E (.Call (.Name "isinstance" p) [e,b] [] pos) (f1 (zi1 tab) fa):=by
 obtain⟨t,pt,rt⟩:=ha.ex
 refine XE'.out ⟨_,ju zdp hg hm boot_isinstance (wA pt (wA hb uX h2) h1) (by decide) (by decide) h1 hpl,fun H0 F0 ρ σ H F Q R o=>rt H0 F0 ρ σ H F _ R (OutE.fst o fun d u H1 F1 g1 q o1=>?_)⟩
 obtain⟨z,hz,k⟩:=o1.lf
 have fh:=(R.grow g1).fh
 cases q with
 | exc hF =>
  rename_i ad nn
  dsimp only [zi1] at hz
  cases hl:tab.lookup nn with
  | none=>rw[hl] at hz;cases hz
  | some bb =>
   rw[hl] at hz
   obtain rfl:=Option.some.inj hz
   obtain⟨z1,z2⟩:=hk nn bb (lookup_mem hl)
   exact⟨ad,cl nn,v,bb,rfl,fh _ _ hF,z1,z2,k _ _ _ (Gr.refl fh) (.bl _)⟩
 | _=>cases hz
def zl3:D→Bool
 | .bl _=>true
 | _=>false
def zhl:D→Bool
 | .bl b=>b
 | _=>false
theorem Dts.truths {K:PySem.W.Frag}{F:Hp}:∀{vs:List V}{ds:List D},Dts K cl F vs ds→ds.all zl3=true→vs=(ds.map zhl).map .bl
 | _,_,.nil,_=>rfl
 | _,_,.cons q r,h=>by
  rw[List.all_cons,Bool.and_eq_true] at h
  cases q with
  | bl b=>rw[Dts.truths r h.2];rfl
  | _=>exact absurd h.1 (by simp[zl3])
def zji:D→D→Option D
 | .lst ds,.bl k=>if ds.all zl3=true then some (.int ((ds.map zhl).count k:Nat)) else none
 | _,_=>none
def zkn:D→D→Option D
 | .lst ds,.bl k=>if ds.all zl3=true∧ds.length≤1000∧k∈ds.map zhl then some (.int ((ds.map zhl).idxOf k:Nat)) else none
 | _,_=>none
def zi9 (K:PySem.W.Frag):V→List V→Hp→VK→Prop:=fun x vs H Q=>∃l xs y,x=.ref l∧vs=[y]∧SqL K H l xs∧uD y=true∧xs.all uD=true∧Q (.int ((xs.countP fun z=>eqV z y:Nat):Int)) H
theorem zhj:MtR X "list.count" (zi9 X.K):=by
 intro pins s σ H x vs v us Q I rx rv h
 obtain⟨l,xs,y,rfl,rfl,hH,fy,fs,q⟩:=h
 cases rx
 obtain⟨u,rfl,ru⟩:=rv.one
 obtain⟨its,r,pl,hl⟩:=I.list hH
 obtain⟨o,n,e,hc,hd,hs⟩:=id pl
 have eo:o={cls:=.type "list", dict:=none,data:=.seq its.toArray n,slots:=o.slots}:=by
  obtain⟨c,d,dt,sl⟩:=o
  dsimp only at hc hd hs
  subst hc hd hs
  rfl
 rw[eo] at e
 refine call_meets F.slot_list_count ⟨_,e,rfl⟩ F.entry_list_count (F.args_list_count_2 _ _) (SeqAt.list_countAt l its.toArray n none o.slots u (eqU y)) ⟨e,fun w hw=>qZ ru fy r fs w (by simpa using hw),?_⟩
 have ec:((its.toArray.toList.countP (eqU y):Nat):Int)=((xs.countP fun z=>eqV z y:Nat):Int):=by
  rw[show its.toArray.toList=its from rfl,zdh r fs]
 rw[ec]
 exact⟨.int _,H,I.tok _,⟨_,rfl⟩,q⟩
theorem zeN (L:List Bool):(L.map V.bl).all uD=true:=by
 rw[List.all_map];exact List.all_eq_true.mpr fun _ _=>rfl
theorem zgW (L:List Bool)(k:Bool):(L.map V.bl).countP (fun z=>eqV z (.bl k))=L.count k:=by
 rw[List.countP_map];rfl
theorem zko {E:XK}{o:Expr}{fa fb:Rho→Rs D}{apos cpos:Pos}(ho:XE X cl E o fa)(ha:XE X cl E e fb)(m:Mth X o e "count" apos cpos):XE X cl E (.Call (.Attribute o "count" apos) [e] [] cpos) (fM ziM zji fa fb):=by
 obtain⟨t,pt,rt⟩:=ho.ex
 obtain⟨u,pu,ru⟩:=ha.ex
 refine XE'.out ⟨_,zd8 PySem.F.plainAttrs_list PySem.F.slot_list_count PySem.F.type_list_count zhj pt (wA pu uX m.hs) m.base m.few m.line m.hs m.plain,fun H0 F0 ρ σ H F Q R o=>rt H0 F0 ρ σ H F _ R (OutE.fst o fun d v H1 F1 g1 q o1=>?_)⟩
 split at o1
 ·rename_i hd
  cases q with
  | lst sq dq =>
   rename_i ad xs ds
   refine⟨.inl ⟨rfl,xs,(R.grow g1).fh.seq sq⟩,ru H0 F0 ρ σ H1 F1 _ (R.grow g1) (OutE.fst o1 fun d2 v2 H2 F2 g2 q2 o2=>?_)⟩
   obtain⟨z,hz,k⟩:=o2.lf
   have fh:=(R.grow (g1.trans g2)).fh
   cases q2 with
   | bl key =>
    dsimp only [zji] at hz
    split at hz
    ·rename_i h
     obtain rfl:=Option.some.inj hz
     obtain rfl:=dq.truths h
     refine⟨ad,_,_,rfl,rfl,fh.seq (g2.ff.seq sq),rfl,zeN _,?_⟩
     rw[zgW]
     exact k _ _ _ (Gr.refl fh) (.int _)
    ·cases hz
   | _=>cases hz
  | _=>cases hd
 ·exact o1.elim
theorem zjb {E:XK}{o:Expr}{fa fb:Rho→Rs D}{apos cpos:Pos}(ho:XE X cl E o fa)(ha:XE X cl E e fb)(m:Mth X o e "index" apos cpos):XE X cl E (.Call (.Attribute o "index" apos) [e] [] cpos) (fM ziM zkn fa fb):=by
 obtain⟨t,pt,rt⟩:=ho.ex
 obtain⟨u,pu,ru⟩:=ha.ex
 refine XE'.out ⟨_,zd8 PySem.F.plainAttrs_list PySem.F.slot_list_index PySem.F.type_list_index zdz pt (wA pu uX m.hs) m.base m.few m.line m.hs m.plain,fun H0 F0 ρ σ H F Q R o=>rt H0 F0 ρ σ H F _ R (OutE.fst o fun d v H1 F1 g1 q o1=>?_)⟩
 split at o1
 ·rename_i hd
  cases q with
  | lst sq dq =>
   rename_i ad xs ds
   refine⟨.inl ⟨rfl,xs,(R.grow g1).fh.seq sq⟩,ru H0 F0 ρ σ H1 F1 _ (R.grow g1) (OutE.fst o1 fun d2 v2 H2 F2 g2 q2 o2=>?_)⟩
   obtain⟨z,hz,k⟩:=o2.lf
   have fh:=(R.grow (g1.trans g2)).fh
   cases q2 with
   | bl key =>
    dsimp only [zkn] at hz
    split at hz
    ·rename_i h
     obtain⟨h1,h2,h3⟩:=h
     obtain rfl:=Option.some.inj hz
     obtain rfl:=dq.truths h1
     have hlt:=List.idxOf_lt_length_of_mem h3
     have hge:(ds.map zhl)[(ds.map zhl).idxOf key]=key:=List.getElem_idxOf hlt
     refine⟨ad,_,_,(ds.map zhl).idxOf key,.bl key,rfl,rfl,fh.seq (g2.ff.seq sq),rfl,zeN _,?_,by show(key == key)=true;simp,by rw[List.length_map] at hlt;omega,fun mm w hmm hw=>?_,k _ _ _ (Gr.refl fh) (.int _)⟩
     ·rw[List.getElem?_map,List.getElem?_eq_getElem hlt,hge];rfl
     ·have hml:mm<(ds.map zhl).length:=Nat.lt_trans hmm hlt
      rw[List.getElem?_map,List.getElem?_eq_getElem hml] at hw
      obtain rfl:=Option.some.inj hw
      have:=List.not_of_lt_findIdx (p:=fun z=>z == key) (xs:=ds.map zhl) hmm
      show((ds.map zhl)[mm] == key)=false
      simpa using this
    ·cases hz
   | _=>cases hz
  | _=>cases hd
 ·exact o1.elim
end
end L2
namespace L2
open PySem PySem.Spec PyProof.Rows
structure FnIn (X:Cx)(cl:Nat→Addr)(n:Nat)(fn:List D→Rs D)(f:Addr):Prop where
 ex:∃k fd ps,FnOk X.prog X.w X.K X.mg X.base (CX1 X.prog X.w) k f fd ps (spD X.K cl fn n)∧Room k X.A∧Binds X.K fd ps []
 kp:PySem.W.keepIn X.K (.ref f)=true
inductive FnsIn (X:Cx)(cl:Nat→Addr)(n:Nat):List Expr→List Addr→List (List D→Rs D)→Prop
 | nil:FnsIn X cl n [] [] []
 | cons {e:Expr}{f:Addr}{fn:List D→Rs D}{es:List Expr}{fs:List Addr}{fns:List (List D→Rs D)} (he:PE X.nox e (tC (.ref f))) (h:FnIn X cl n fn f) (r:FnsIn X cl n es fs fns) (hs:starEach (e::es) X.env=(false,eval e X.env)::starEach es X.env):FnsIn X cl n (e::es) (f::fs) (fn::fns)
section
variable {X:Cx}{cl:Nat→Addr}
theorem FnsIn.at {n:Nat}{es:List Expr}{fs:List Addr}{fns:List (List D→Rs D)}(h:FnsIn X cl n es fs fns):∀(i:Nat) (fn:List D→Rs D),fns[i]? = some fn→∃f,fs[i]? = some f∧FnIn X cl n fn f:=by
 induction h with
 | nil=>intro i fn e;simp at e
 | cons he h r hs ih =>
  intro i g e
  cases i with
  | zero=>simp at e;subst e;exact⟨_,rfl,h⟩
  | succ i=>exact ih i g (by simpa using e)
def PXs (X:Cx)(sts:List Stmt)(t:St→Hp→VK→XK→Prop):Prop:=∀(pins:List (Addr×Obj)) (s:Shared) (σ:St) (H:Hp) (D:Ends) (E:XK) (F':Value→Shared→Prop),Inv X pins σ H s →
 (∀H s e s',Inv X pins σ H s→zdw X.prog X.w X.stack H s E e s'→F' e s')→t σ H D.rt E→wpAny (model X.prog X.w) X.A (execs sts X.env) (SP X pins {D with nx:=fun _ _=>False,bk:=fun _ _=>False,ct:=fun _ _=>False}) F' s
theorem zjn {e:Expr}{rpos:Pos}{tx:St→Hp→VK→XK→Prop}(h:PX X e tx):PXs X [.Return (some e) rpos] tx:=by
 intro pins s σ H D E F' I hx q
 refine wpAny_execs_cons (wpAny_Return_some ?_)
 exact wpAny_mono (h pins s σ H D.rt E F' I hx q) (fun u s2 ⟨v,H2,I2,rv,q2⟩=>⟨v,σ,H2,I2,rv,q2⟩) fun _ _ z=>z
theorem zlM {c:Expr}{a rest:List Stmt}{ipos:Pos}{tc:TT}{tx ty:St→Hp→VK→XK→Prop}(hc:PT X.nox c tc)(ha:PXs X a tx)(hr:PXs X rest ty):PXs X (.If c a [] ipos::rest) (fun σ H Q E=>tc σ H fun d H1=>if d=true then tx σ H1 Q E else ty σ H1 Q E):=by
 intro pins s σ H D E F' I hx q
 refine wpAny_execs_cons (wpAny_If (wpAny_mono (hc pins s σ H _ (I.wish _) q) (fun d s1 ⟨H1,I1,q1⟩=>?_) fun _ _ z=>False.elim z))
 cases d with
 | true =>
  refine wpAny_mono (ha pins s1 σ H1 D E F' I1.unwish hx q1) (fun fl s2 z=>?_) fun _ _ z=>z
  cases fl with
  | next=>obtain⟨_,_,_,z⟩:=z;exact z.elim
  | ret v=>exact z
  | brk=>exact z
  | cont=>exact z
 | false=>exact wpAny_execs_nil (hr pins s1 σ H1 D E F' I1.unwish hx q1)
def XXs (X:Cx)(cl:Nat→Addr)(sts:List Stmt)(f:Rho→Rs D):Prop:=PXs X sts (fun σ H Q E=>∃H0 F0 ρ F,Rl X.K cl H0 F0 ρ σ H F∧OutE X.K cl E H0 F H (f ρ) Q)
theorem zhd {e:Expr}{rpos:Pos}{f:Rho→Rs D}(h:XX X cl e f):XXs X cl [.Return (some e) rpos] f:=zjn h
theorem PXs.mono {sts:List Stmt}{t u:St→Hp→VK→XK→Prop}(h:PXs X sts t)(k:∀σ H Q E,u σ H Q E→t σ H Q E):PXs X sts u:=fun pins s σ H D E F' I hx q=>h pins s σ H D E F' I hx (k σ H D.rt E q)
theorem zk0 {c:Expr}{a rest:List Stmt}{ipos:Pos}{ft:Rho→Rs Bool}{fa fb:Rho→Rs D}(hc:XT X.nox cl E0 c ft)(ha:XXs X cl a fa)(hb:XXs X cl rest fb):XXs X cl (.If c a [] ipos::rest) (fIf (zcE ft) fa fb):=by
 obtain⟨t,pt,rt⟩:=hc.ex
 refine(zlM pt ha hb).mono fun σ H Q E ⟨H0,F0,ρ,F,R,o⟩=>rt H0 F0 ρ σ H F _ R ?_
 unfold fIf zcE at o
 cases e:ft ρ with
 | ex n=>rw[e] at o;exact o.elim
 | no=>rw[e] at o;exact o.elim
 | ok d =>
  rw[e] at o
  intro H1 F1 g
  have o1:OutE X.K cl E H0 F H (if d=true then fa ρ else fb ρ) Q:=o
  have up:∀r:Rs D,OutE X.K cl E H0 F H r Q→OutE X.K cl E H0 F1 H1 r Q:=fun r z=>by
   cases r with
   | ok d=>exact fun v H' F' g' q'=>z v H' F' (g.trans g') q'
   | ex n=>exact z
   | no=>exact z
  split
  ·rename_i hd
   rw[if_pos hd] at o1
   exact⟨H0,F0,ρ,F1,R.grow g,up _ o1⟩
  ·rename_i hd
   rw[if_neg hd] at o1
   exact⟨H0,F0,ρ,F1,R.grow g,up _ o1⟩
theorem zid {sts:List Stmt}{x n:Str}{np hpos pos:Pos}{i:Nat}{b₀:Stmt}{suite:List Stmt}{th:TS}{more:List ExceptHandler}{tx:St→Hp→VK→XK→Prop}(hx:PXs X sts tx)(O:Own X.K X.mg x)(hgx:Gl X x)(hN:X.N.Nodup)(hi:X.N[i]? = some n)(hlo:X.env.scope.names.lookup n=some .local)(hs:∀a,PSs (X.hand a) (b₀::suite) th)
  (hst:X.stack=X.env::X.outer) (hfr:X.env.frame=some X.env.locals) (hdx:(x == ("__debug__" : Str))=false:=by decide) :
  PS X (.Try sts (.ExceptHandler (some (.Name x np)) (some n) (b₀::suite) hpos::more) [] [] pos) (fun D σ H=>tx σ H D.rt (ziD X.K O.C i th D σ)):=by
 intro pins s σ H D I h
 refine wpAny_Try_except (wpAny_mono (hx pins s σ H D _ _ I (fun H2 s2 e2 s3 I2 hf=>caught I2 hst hfr O hgx hN hi hlo hs hf hdx) h) (fun fl s2 z=>?_) fun _ _ z=>z)
 cases fl with
 | next=>obtain⟨_,_,_,z⟩:=z;exact z.elim
 | ret v=>exact z
 | brk=>obtain⟨_,_,_,z⟩:=z;exact z.elim
 | cont=>obtain⟨_,_,_,z⟩:=z;exact z.elim
theorem zjB {E:XK}{sts:List Stmt}{n xc:Str}{np rp2 hpos pos:Pos}{i:Nat}{cs:List Nat}{ef hf:Rho→Rs D}{hd:Expr}(hx:XXs X cl sts ef)(O:Own X.K X.mg xc)(hgx:Gl X xc)(hN:X.N.Nodup)(hi:X.N[i]? = some n)(hlo:X.env.scope.names.lookup n=some .local)
  (hcs:zes (fun n=>PySem.W.subIn X.K (.ref (cl n)) (.ref O.C)=some true) cs) (hh:∀a,XE (X.hand a) cl E0 hd hf) (hst:X.stack=X.env::X.outer) (hfr:X.env.frame=some X.env.locals) (hdx:(xc == ("__debug__" : Str))=false:=by decide) :
  XS X cl E (.Try sts [.ExceptHandler (some (.Name xc np)) (some n) [.Return (some hd) rp2] hpos] [] [] pos) (zlp i cs ef hf):=by
 refine XS'.out ⟨_,zid hx O hgx hN hi hlo (fun a=>zgV (ziW (te:=tDE X.K cl E0 hf) (hh a))) hst hfr hdx,fun H0 F0 ρ σ H F Dn R o=>?_⟩
 unfold zlp at o
 split at o
 ·rename_i hal
  refine⟨H,F,ρ,F,R.base hal,?_⟩
  cases e:ef ρ with
  | ok d=>rw[e] at o;exact fun v H' F' g q=>o v H' F' (R.gr.trans g) q
  | no=>rw[e] at o;exact o
  | ex n =>
   rw[e] at o
   dsimp only at o
   split at o
   ·rename_i hn
    intro H' sH
    refine⟨cl n,rfl,hcs n hn,fun a ha=>?_⟩
    have g:=Gr.exc (o:=excAt a (cl n)) R.fh sH ha
    refine⟨H0,F0,_,_,(R.grow g).set (i:=i) (.exc yg),?_⟩
    cases e2:hf (ρ.set i (.fz (.exc n))) with
    | ok d=>rw[e2] at o;exact fun v H2 F2 g2 q2=>o v H2 F2 ((R.gr.trans g).trans g2) q2
    | ex m=>rw[e2] at o;exact o.elim
    | no=>rw[e2] at o;exact o.elim
   ·exact o.elim
 ·exact o.elim
end
end L2
namespace L2
open PySem PySem.Spec PyProof.Rows
open AutoSeq1 (wpAny_loadPart')
end L2
namespace L2
open PySem PySem.Spec PyProof.Rows
def intD:List D→Option D
 | [.bl b]=>some (.int (if b then 1 else 0))
 | _=>none
theorem zgf {X:Cx}:qR X (.type "int") (fun xs H Q=>∃b,xs=[.bl b]∧Q (.int (if b then 1 else 0)) H):=by
 intro pins s σ H xs us Q I r h
 obtain⟨b,rfl,q⟩:=h
 obtain⟨u,rfl,r1⟩:=vals1 r
 obtain rfl:u=.bool b:=r1
 exact call_int_bool ⟨.int _,H,I.tok _,⟨_,rfl⟩,q⟩
theorem n_int {K:PySem.W.Frag}{cl:Nat→Addr}:Fn1 K cl (fun xs H Q=>∃b,xs=[.bl b]∧Q (.int (if b then 1 else 0)) H) intD:=fun F H vs ds d Q s q e k=>by
 match ds,q,e with
 | [.bl b],q,e =>
  obtain⟨v,rfl,q1⟩:=q.one
  cases q1
  obtain rfl:=Option.some.inj e
  exact⟨b,rfl,k _ _ _ (Gr.refl s) (.int _)⟩
end L2
namespace L2
open PySem PySem.Spec PyProof.Rows
open AutoSeq1 (wpAny_loadPart')
end L2
namespace L2
open PySem PySem.Spec PyProof.Rows
end L2
namespace L2
open PySem PySem.Spec PyProof.Rows
end L2
namespace L2
open PySem PySem.Spec PyProof.Rows
end L2
namespace L2
open PySem
def tI (led:Bool)(ks:List Nat):SetTable:=if ks.length<5 then {mask:=7,place:=ks.toArray,dummies:=#[],finger:=0,led,moves:=0,plain:=true} else {mask:=31,place:=ks.toArray,dummies:=#[],finger:=0,led,moves:=1,plain:=true}
def zlD:List (List Nat):=([1,2,3,4,5,6]:List Nat).foldr (fun x acc=>acc++acc.map (x :: ·)) [[]]
theorem zmA:∀led,∀ks∈zlD,(tI led ks).fits ks.length=true∧(tI led ks).led=led∧(tI led ks).plain=true∧ks.length≤6∧ks.Nodup∧∀k∈ks,k∈([1,2,3,4,5,6]:List Nat):=by decide +kernel
structure StI (w:World)(es:Array (Int×Value))(t:SetTable)(ks:List Nat):Prop where
 hs:es.toList.map (·.1)=ks.map fun(k:Nat)=>(k:Int)
 vs:∀e∈es.toList,∃(k:Nat) (tk:Tok),k∈ks∧e=((k:Int),Value.int (k:Int) tk)
 tb:t=tI (!w.params.followText "set-order") ks
 sb:ks∈zlD
section
variable {prog:Program}{w:World}{A:Around}{E:Value→Shared→Prop}{s:Shared}{es:Array (Int×Value)}{t:SetTable}{ks:List Nat}
theorem StI.size (S:StI w es t ks):es.size=ks.length:=by
 have:=congrArg List.length S.hs
 simpa using this
theorem StI.fits (S:StI w es t ks):t.fits es.size=true:=by rw[S.size,S.tb];exact(zmA _ ks S.sb).1
theorem StI.find (S:StI w es t ks)(x:Nat):(∃e∈es.toList,Value.isInt (x:Int) e.2=true)↔x∈ks:=by
 constructor
 ·rintro ⟨e,he,h⟩
  obtain⟨k,tk,hk,rfl⟩:=S.vs e he
  have:(x:Int)=(k:Int):=by
   obtain⟨t,e⟩:=Value.isInt_shape h
   injection e with e _
   exact e.symm
  have:x=k:=by omega
  subst this;exact hk
 ·intro hx
  have:(x:Int)∈es.toList.map (·.1):=by rw[S.hs];exact List.mem_map_of_mem hx
  obtain⟨e,he,e1⟩:=List.mem_map.mp this
  obtain⟨k,tk,hk,rfl⟩:=S.vs e he
  refine⟨_,he,?_⟩
  dsimp only at e1
  rw[e1]
  simp[Value.isInt]
end
end L2
namespace L2
open PySem
end L2
set_option maxHeartbeats 3200000
namespace L2
open PySem
section
variable {prog:Program}{w:World}{A:Around}{E:Value→Shared→Prop}{s:Shared}
theorem StI.new:StI w #[] (.fresh 0 0 (!w.params.followText "set-order")) []:=⟨rfl,fun e he=>by simp at he,rfl,by decide⟩
end
end L2
namespace L2
open PySem PySem.Spec PyProof.Rows
section
variable {prog:Program}{w:World}{A:Around}{E:Value→Shared→Prop}{s:Shared}
end
end L2
set_option maxHeartbeats 1000000
namespace L2
open PySem PySem.Spec PyProof.Rows
end L2
namespace L2
open PySem PySem.W PyProof.Rows
structure Ord (n:Nat)(b:Nat→Nat→Bool):Prop where
 tr:∀i j k,i<n→j<n→k<n→b i j=true→b j k=true→b i k=true
 tot:∀i j,i<n→j<n→i≠j→b i j=false→b j i=true
 ir:∀i,i<n→b i i=false
def PP (n:Nat)(p:Array Nat):Prop:=p.toList.Perm (List.range n)
section
variable {n:Nat}{b:Nat→Nat→Bool}{cmp:Nat→Nat→(Bool→Shared→Prop)→Shared→Prop}{s:Shared}{p:Array Nat}
theorem gd (p:Array Nat)(i:Nat):p.getD i 0=(p[i]?).getD 0:=by simp[Array.getD];split <;>simp_all
theorem PP.size (h:PP n p):p.size=n:=by have:=h.length_eq;simpa using this
theorem PP.lt (h:PP n p){i:Nat}(hi:i<n):p.getD i 0<n:=by
 have hs:=h.size
 have e:p.getD i 0=p[i]'(by omega):=by rw[gd,getElem?_pos p i (by omega)];rfl
 rw[e]
 exact List.mem_range.mp (h.mem_iff.mp (Array.getElem_mem_toList (by omega)))
theorem PP.inj (h:PP n p){i j:Nat}(hi:i<n)(hj:j<n)(hij:i≠j):p.getD i 0≠p.getD j 0:=by
 have hs:=h.size
 have nd:p.toList.Nodup:=h.nodup_iff.mpr List.nodup_range
 have e:∀k,k<n→p.getD k 0=p.toList.getD k 0:=fun k hk=>by rw[gd];simp
 rw[e i hi,e j hj]
 intro z
 have hl:p.toList.length=n:=by simpa using hs
 rw[List.getD_eq_getElem?_getD,List.getD_eq_getElem?_getD,List.getElem?_eq_getElem (by omega),List.getElem?_eq_getElem (by omega)] at z
 have pw:=List.pairwise_iff_getElem.mp nd
 rcases Nat.lt_or_gt_of_ne hij with c|c
 ·exact pw i j (by omega) (by omega) c z
 ·exact pw j i (by omega) (by omega) c z.symm
def Sd (b:Nat→Nat→Bool)(k:Nat)(p:Array Nat):Prop:=∀i j,i<j→j<k→b (p.getD i 0) (p.getD j 0)=true
def Dd (b:Nat→Nat→Bool)(k:Nat)(p:Array Nat):Prop:=∀i j,i<j→j<k→b (p.getD j 0) (p.getD i 0)=true
variable (O:Ord n b)(hc:∀i j (C:Bool→Shared→Prop),i<n→j<n→C (b i j) s→cmp i j C s)
include O hc
theorem zgx (hp:PP n p){Q:Nat→Shared→Prop}:∀(f m:Nat),1≤m→m+f=n→Sd b m p→(∀m',m≤m'→m'≤n→Sd b m' p→(m'<n→b (p.getD m' 0) (p.getD (m' - 1) 0)=true)→Q m' s)→(kas_asc p f m).kasWp cmp Q s
 | 0,m,h1,h2,h3,q=>q m (Nat.le_refl _) (by omega) h3 (fun h=>by omega)
 | f + 1,m,h1,h2,h3,q=>by
  refine hc _ _ _ (hp.lt (by omega)) (hp.lt (by omega)) ?_
  cases e:b (p.getD m 0) (p.getD (m - 1) 0) with
  | true=>exact q m (Nat.le_refl _) (by omega) h3 fun _=>e
  | false =>
   refine zgx hp f (m+1) (by omega) (by omega) ?_ fun m' a1 a2 a3 a4=>q m' (by omega) a2 a3 a4
   have e':=O.tot _ _ (hp.lt (show m<n by omega)) (hp.lt (show m - 1<n by omega)) (hp.inj (by omega) (by omega) (by omega)) e
   intro i j hij hj
   by_cases hjm:j=m
   ·subst hjm
    by_cases hi:i=j - 1
    ·rw[hi];exact e'
    ·exact O.tr _ _ _ (hp.lt (by omega)) (hp.lt (by omega)) (hp.lt (by omega)) (h3 i (j - 1) (by omega) (by omega)) e'
   ·exact h3 i j hij (by omega)
theorem zhf (hp:PP n p){Q:Array Nat×Nat×Nat→Shared→Prop}:∀(f m:Nat),1≤m→m+f=n→Dd b m p→(∀m',m≤m'→m'≤n→Dd b m' p→Q (p,m',0) s)→(kas_desc f p m 0).kasWp cmp Q s
 | 0,m,h1,h2,h3,q=>q m (Nat.le_refl _) (by omega) h3
 | f + 1,m,h1,h2,h3,q=>by
  refine hc _ _ _ (hp.lt (by omega)) (hp.lt (by omega)) ?_
  cases e:b (p.getD m 0) (p.getD (m - 1) 0) with
  | true =>
   refine zhf hp f (m+1) (by omega) (by omega) ?_ fun m' a1 a2 a3=>q m' (by omega) a2 a3
   intro i j hij hj
   by_cases hjm:j=m
   ·subst hjm
    by_cases hi:i=j - 1
    ·rw[hi];exact e
    ·exact O.tr _ _ _ (hp.lt (by omega)) (hp.lt (by omega)) (hp.lt (by omega)) e (h3 i (j - 1) (by omega) (by omega))
   ·exact h3 i j hij (by omega)
  | false =>
   have e':=O.tot _ _ (hp.lt (show m<n by omega)) (hp.lt (show m - 1<n by omega)) (hp.inj (by omega) (by omega) (by omega)) e
   refine hc _ _ _ (hp.lt (by omega)) (hp.lt (by omega)) ?_
   rw[e']
   exact q m (Nat.le_refl _) (by omega) h3
omit O hc in
theorem ziL (hp:PP n p)(i j:Nat):PP n (kas_rev p i j):=((mirror_perm p i j _).toList).trans hp
omit O hc in
theorem zlT (hp:PP n p){m:Nat}(hm:m≤n)(h:Dd b m p):Sd b m (kas_rev p 0 m):=by
 have hs:=hp.size
 have e:∀k,k<m→(kas_rev p 0 m).getD k 0=p.getD (m - 1 - k) 0:=fun k hk=>by
  rw[gd,gd]
  unfold kas_rev
  rw[getElem?_mirror_all (by omega),if_pos ⟨Nat.zero_le _,hk⟩,Nat.zero_add]
 intro i j hij hj
 rw[e i (by omega),e j hj]
 exact h _ _ (by omega) (by omega)
theorem zi5 (hp:PP n p){m:Nat}(h1:1≤m)(hm:m≤n)(h:Dd b m p){Q:Nat×Array Nat→Shared→Prop}(q:∀m' p',PP n p'→1≤m'→m'≤n→Sd b m' p'→Q (m',p') s):(kas_tail3 m n p).kasWp cmp Q s:=by
 unfold kas_tail3
 rw[KasT.kasWp_bind]
 exact zgx O hc (ziL hp 0 m) (n - m) m h1 (by omega) (zlT hp hm h) fun m' a1 a2 a3 _=>q m' _ (ziL hp 0 m) (by omega) a2 a3
theorem zh9 (hp:PP n p)(h2:2≤n){Q:Nat×Array Nat→Shared→Prop}(q:∀m' p',PP n p'→1≤m'→m'≤n→Sd b m' p'→Q (m',p') s):(kas_count n p).kasWp cmp Q s:=by
 unfold kas_count
 rw[KasT.kasWp_bind]
 refine zgx O hc hp (n - 1) 1 (Nat.le_refl _) (by omega) (fun i j hij hj=>by omega) fun m a1 a2 a3 a4=>?_
 by_cases e:m=n
 ·rw[if_pos (by simp[e])]
  exact q m p hp a1 a2 a3
 ·rw [if_neg (by simp[e])]
  by_cases g:m > 1
  ·rw[if_pos g]
   refine hc _ _ _ (hp.lt (by omega)) (hp.lt (by omega)) ?_
   rw[a3 0 (m - 1) (by omega) (by omega)]
   exact q m p hp a1 a2 a3
  ·rw [if_neg g]
   have m1:m=1:=by omega
   subst m1
   unfold kas_descPart
   rw[KasT.kasWp_bind]
   have a4':=a4 (by omega)
   refine zhf O hc hp (n - (1+1)) (1+1) (by omega) (by omega) (fun i j hij hj=>?_) fun m' b1 b2 b3=>?_
   ·have:i=0∧j=1:=by omega
    rw[this.1,this.2]
    exact a4'
   ·rw[if_neg (by show ¬0 > 0;omega)]
    exact zi5 O hc hp (by omega) b2 b3 q
theorem zb6 (hp:PP n p){k:Nat}(hk:k<n)(sd:Sd b k p){Q:Nat→Shared→Prop}(q:∀l,l≤k→(∀i,i<l→b (p.getD i 0) (p.getD k 0)=true)→(∀i,l≤i→i<k→b (p.getD k 0) (p.getD i 0)=true)→Q l s) :
  ∀(f l r:Nat),l≤r→r≤k→r - l≤f→(∀i,i<l→b (p.getD i 0) (p.getD k 0)=true)→(∀i,r≤i→i<k→b (p.getD k 0) (p.getD i 0)=true)→(kas_place p k f l r).kasWp cmp Q s
 | 0,l,r,h1,h2,h3,ha,hb=>q l (by omega) ha fun i hi=>hb i (by omega)
 | f + 1,l,r,h1,h2,h3,ha,hb=>by
  unfold kas_place
  by_cases g:l≥r
  ·rw[if_pos g]
   exact q l (by omega) ha fun i hi=>hb i (by omega)
  ·rw [if_neg g]
   have mk:(l+r) / 2<k:=by omega
   refine hc _ _ _ (hp.lt (by omega)) (hp.lt (by omega)) ?_
   cases e:b (p.getD k 0) (p.getD ((l+r) / 2) 0) with
   | true =>
    refine zb6 hp hk sd q f l ((l+r) / 2) (by omega) (by omega) (by omega) ha fun i hi hik=>?_
    by_cases z:i=(l+r) / 2
    ·rw[z];exact e
    ·exact O.tr _ _ _ (hp.lt (by omega)) (hp.lt (by omega)) (hp.lt (by omega)) e (sd _ i (by omega) hik)
   | false =>
    have e':=O.tot _ _ (hp.lt hk) (hp.lt (show(l+r) / 2<n by omega)) (hp.inj hk (by omega) (by omega)) e
    refine zb6 hp hk sd q f ((l+r) / 2+1) r (by omega) (by omega) (by omega) (fun i hi=>?_) hb
    by_cases z:i=(l+r) / 2
    ·rw[z];exact e'
    ·exact O.tr _ _ _ (hp.lt (by omega)) (hp.lt (by omega)) (hp.lt (by omega)) (sd i _ (by omega) mk) e'
theorem ziU {Q:Array Nat→Shared→Prop}(q:∀p',PP n p'→Sd b n p'→Q p' s):∀(f k:Nat) (p:Array Nat),PP n p→k+f=n→Sd b k p→(kas_bin f p k).kasWp cmp Q s
 | 0,k,p,hp,h1,sd=>q p hp ((show k=n by omega)▸sd)
 | f + 1,k,p,hp,h1,sd=>by
  unfold kas_bin
  rw[KasT.kasWp_bind]
  refine zb6 O hc hp (show k<n by omega) sd (fun l hl ha hb=>?_) k 0 k (Nat.zero_le _) (Nat.le_refl _) (by omega) (fun i hi=>by omega) (fun i hi hk=>by omega)
  have hs:=hp.size
  have e:∀i,(bubble p k (k - l)).getD i 0=if i=l then p.getD k 0 else if l<i∧i≤k then p.getD (i - 1) 0 else p.getD i 0:=fun i=>by
   rw[gd,getElem?_bubble (by omega) _ (by omega)]
   rw[show k - (k - l)=l by omega]
   repeat' split
   all_goals rw[gd]
  refine ziU q f (k+1) (bubble p k (k - l)) (((bubble_perm p k _).toList).trans hp) (by omega) fun i j hij hj=>?_
  rw[e i,e j]
  by_cases c1:i=l
  ·rw[if_pos c1,if_neg (by omega),if_pos (by omega)]
   exact hb _ (by omega) (by omega)
  ·rw [if_neg c1]
   by_cases c2:j=l
   ·rw[if_pos c2,if_neg (by omega)]
    exact ha i (by omega)
   ·rw [if_neg c2]
    by_cases c3:l<j
    ·rw[if_pos (show l<j∧j≤k by omega)]
     by_cases c4:l<i
     ·rw[if_pos (by omega)];exact sd _ _ (by omega) (by omega)
     ·rw[if_neg (by omega)];exact sd _ _ (by omega) (by omega)
    ·rw[if_neg (show ¬(l<j∧j≤k) by omega),if_neg (by omega)]
     exact sd _ _ hij (by omega)
theorem zjw (h2:2≤n){Q:Array Nat→Shared→Prop}(q:∀p',PP n p'→Sd b n p'→Q p' s):(kas_sort n).kasWp cmp Q s:=by
 unfold kas_sort
 rw[KasT.kasWp_bind]
 refine zh9 O hc (p:=List.toArray (List.range n)) (by unfold PP;exact List.Perm.refl _) h2 fun m p' hp a1 a2 a3=>?_
 dsimp only
 by_cases g:m<n
 ·rw[if_pos g]
  rw[show max m 1=m by omega]
  exact ziU O hc q (n - m) m p' hp (by omega) a3
 ·rw[if_neg g]
  exact q p' hp ((show m=n by omega)▸a3)
end
end L2
namespace L2
open PySem PySem.W PyProof.Rows
def ziK:Key→Key→Bool
 | .inl i,.inl j=>decide (i<j)
 | .inr a,.inr b=>decide (a.cps.toList<b.cps.toList)
 | _,_=>false
def zl4:Key→Key→Bool
 | .inl _,.inl _=>true
 | .inr _,.inr _=>true
 | _,_=>false
def zbK:List Key→List Key→Bool
 | [],[]=>false
 | [],_::_=>true
 | _::_,[]=>false
 | x::xs,y::ys=>if x=y then zbK xs ys else ziK x y
def zjL:List Key→List Key→Bool
 | x::xs,y::ys=>zl4 x y&&zjL xs ys
 | _,_=>true
section
variable {prog:Program}{w:World}{A:Around}{E:Value→Shared→Prop}{s:Shared}
theorem zkP {x y:Key}{p q:Value}{b:Bool}{Q:Bool→Shared→Prop}(o:zl4 x y=true)(rp:RelV (kV x) p)(rq:RelV (kV y) q)(h:Q (ziK x y) s):wpAny (model prog w) A (oneLt' b p q) Q E s:=by
 cases x with
 | inl i =>
  cases y with
  | inl j =>
   obtain⟨t,rfl⟩:=rp
   obtain⟨u,rfl⟩:=rq
   cases b with
   | true=>exact oneLt_int h
   | false=>exact kat_one _ _ (lt_int h)
  | inr j=>cases o
 | inr i =>
  cases y with
  | inl j=>cases o
  | inr j =>
   obtain⟨t,rfl⟩:=rp
   obtain⟨u,rfl⟩:=rq
   cases b with
   | true=>exact oneLt_str h
   | false=>exact kat_one _ _ (lt_str h)
theorem zkA {x y:Key}{p q:Value}{Q:Bool→Shared→Prop}(o:zl4 x y=true)(rp:RelV (kV x) p)(rq:RelV (kV y) q)(h:Q (decide (x=y)) s):wpAny (model prog w) A (eqBool p q) Q E s:=by
 cases x with
 | inl i =>
  cases y with
  | inl j =>
   obtain⟨t,rfl⟩:=rp
   obtain⟨u,rfl⟩:=rq
   refine wpAny_eqBool_int ?_
   have:(i == j)=decide ((Sum.inl i:Key)=.inl j):=by by_cases z:i=j <;>simp[z]
   rw[this];exact h
  | inr j=>cases o
 | inr i =>
  cases y with
  | inl j=>cases o
  | inr j =>
   obtain⟨t,rfl⟩:=rp
   obtain⟨u,rfl⟩:=rq
   refine wpAny_eqBool_str ?_
   have:decide (i=j)=decide ((Sum.inr i:Key)=.inr j):=by by_cases z:i=j <;>simp[z]
   rw[this];exact h
theorem zgh {fin:Bool}{Q:Bool→Shared→Prop}:∀(xs ys:List Key) (us vs:List Value) (i:Nat),Vals (xs.map kV) us→Vals (ys.map kV) vs→zjL xs ys=true→fin=decide (xs.length<ys.length)→Q (zbK xs ys) s→KatLex prog w A true fin Q (us.zip vs) i s
 | [],[],us,vs,i,r1,r2,o,f,q=>by
  cases r1;cases r2
  refine kat_nil ?_
  rw[f];exact q
 | [],y::ys,us,vs,i,r1,r2,o,f,q=>by
  cases r1
  refine kat_nil ?_
  rw[f,decide_eq_true (by simp)];exact q
 | x::xs,[],us,vs,i,r1,r2,o,f,q=>by
  cases r2
  rw[List.zip_nil_right]
  refine kat_nil ?_
  rw[f,decide_eq_false (by simp)];exact q
 | x::xs,y::ys,us,vs,i,r1,r2,o,f,q=>by
  cases r1 with
  | cons rp r1 =>
  cases r2 with
  | cons rq r2 =>
  unfold zjL at o
  rw[Bool.and_eq_true] at o
  rw[List.zip_cons_cons]
  refine kat_cons (zkA o.1 rp rq ?_)
  unfold zbK at q
  by_cases z:x=y
  ·rw[decide_eq_true z]
   rw[if_pos z] at q
   exact kat_yes (zgh xs ys _ _ (i+1) r1 r2 o.2 (by rw[f];simp) q)
  ·rw[decide_eq_false z]
   rw[if_neg z] at q
   exact kat_no (zkP o.1 rp rq q)
end
theorem zis:∀{a b:List Nat},¬a<b→a≠b→b<a:=fun {a b} h z=>by
 have h1:=List.not_lt.mp h
 rcases Classical.em (b<a) with c|c
 ·exact c
 ·exact absurd (List.le_antisymm (List.not_lt.mp c) h1) z
theorem zly {a b:Str}(h:a.cps.toList=b.cps.toList):a=b:=by
 cases a;cases b
 simp only at h
 congr 1
 exact Array.toList_inj.mp h
theorem zhM {x y:Key}(o:zl4 x y=true)(z:x≠y)(h:ziK x y=false):ziK y x=true:=by
 cases x with
 | inl i =>
  cases y with
  | inl j =>
   have h':decide (i<j)=false:=h
   have:i≠j:=fun e=>z (by rw[e])
   have h2:=of_decide_eq_false h'
   show decide (j<i)=true
   exact decide_eq_true (by omega)
  | inr j=>cases o
 | inr i =>
  cases y with
  | inl j=>cases o
  | inr j =>
   have h2:=of_decide_eq_false (show decide (i.cps.toList<j.cps.toList)=false from h)
   exact decide_eq_true (zis h2 fun e=>z (by rw[zly e]))
theorem ziZ (x:Key):ziK x x=false:=by
 cases x with
 | inl i=>exact decide_eq_false (by omega)
 | inr i=>exact decide_eq_false (List.lt_irrefl _)
theorem zi8:∀{x y z:Key},ziK x y=true→ziK y z=true→ziK x z=true
 | .inl i,.inl j,.inl k,h1,h2=>by
  have a:i<j:=of_decide_eq_true h1
  have b:j<k:=of_decide_eq_true h2
  exact decide_eq_true (by omega)
 | .inr i,.inr j,.inr k,h1,h2=>decide_eq_true (List.lt_trans (of_decide_eq_true h1) (of_decide_eq_true h2))
 | .inl _,.inr _,_,h1,_=>by cases h1
 | .inr _,.inl _,_,h1,_=>by cases h1
 | .inl _,.inl _,.inr _,_,h2=>by cases h2
 | .inr _,.inr _,.inl _,_,h2=>by cases h2
theorem zbW:∀xs:List Key,zbK xs xs=false
 | []=>rfl
 | x::xs=>by unfold zbK;rw[if_pos rfl];exact zbW xs
theorem zcm:∀{xs ys:List Key},zjL xs ys=true→xs≠ys→zbK xs ys=false→zbK ys xs=true
 | [],[],_,z,_=>absurd rfl z
 | [],_::_,_,_,h=>by cases h
 | _::_,[],_,_,_=>rfl
 | x::xs,y::ys,o,z,h=>by
  unfold zjL at o
  rw[Bool.and_eq_true] at o
  unfold zbK at h ⊢
  by_cases e:x=y
  ·rw[if_pos e] at h
   rw[if_pos e.symm]
   exact zcm o.2 (fun q=>z (by rw[e,q])) h
  ·rw[if_neg e] at h
   rw[if_neg fun q=>e q.symm]
   exact zhM o.1 e h
theorem zbY:∀{xs ys zs:List Key},zbK xs ys=true→zbK ys zs=true→zbK xs zs=true
 | [],[],_,h,_=>by cases h
 | [],_::_,[],_,h=>by cases h
 | [],_::_,_::_,_,_=>rfl
 | _::_,[],_,h,_=>by cases h
 | _::_,_::_,[],_,h=>by cases h
 | x :: xs,y::ys,z::zs,h1,h2=>by
  unfold zbK at h1 h2 ⊢
  by_cases e1:x=y
  ·subst e1
   rw[if_pos rfl] at h1
   by_cases e2:x=z
   ·rw[if_pos e2] at h2 ⊢
    exact zbY h1 h2
   ·rw[if_neg e2] at h2 ⊢
    exact h2
  ·rw [if_neg e1] at h1
   by_cases e2:y=z
   ·subst e2
    rw[if_neg e1]
    exact h1
   ·rw [if_neg e2] at h2
    have h3:=zi8 h1 h2
    by_cases e3:x=z
    ·subst e3
     rw[ziZ] at h3
     cases h3
    ·rw[if_neg e3]
     exact h3
end L2
namespace L2
open PySem PySem.W PyProof.Rows
section
variable {prog:Program}{w:World}{A:Around}{E:Value→Shared→Prop}{s:Shared}
abbrev wN (h:Heap)(a:Addr)(vs:List Value):Heap:=((h.update a (Obj.mapSeq fun _=>#[])).push (seqObj "tuple" vs.toArray 0)).push (seqObj "list" #[] 0)
theorem zbk {κ:SortKind}{b:Nat→Nat→Bool}{a:Addr}{vs:List Value}{n:Nat}{P:PySem.Fin→Shared→Prop}(ho:s.heap.get? a=some (seqObj "list" vs.toArray n))(O:Ord vs.length b)
  (hkk:2≤vs.length→∀(Q:SortKind→Shared→Prop),Q κ {s with heap:=wN s.heap a vs}→wpAny (model prog w) A (keyKind' vs.toArray) Q E {s with heap:=wN s.heap a vs})
  (hc:∀i j (C:Bool→Shared→Prop),i<vs.length→j<vs.length→C (b i j) {s with heap:=wN s.heap a vs}→kas_ask prog w A κ vs i j C {s with heap:=wN s.heap a vs}) (h64:vs.length<64)
  (h:∀p,PP vs.length p→Sd b vs.length p→P (.done (.ret .none)) {s with heap:=sortedHeap s.heap a vs (List.toArray (p.toList.map fun i=>vs.getD i Value.none))}) :
  wpAny (model prog w) A (Builtin.«list.sort» ⟨[.ref a],[]⟩) P E s:=by
 rw[list_sort_plain]
 have ha:a<s.heap.objs.size:=Heap.lt_size ho
 refine wpAny_bind (listItems_at ho rfl ?_)
 refine wpAny_bind (listUpdate_at ho rfl ?_)
 obtain⟨e1,ho1⟩:∃e1,(s.heap.update a (Obj.mapSeq fun _=>#[])).get? a=some (seqObj "list" #[] e1):=⟨_,get?_update_seq ho (fun _=>#[])⟩
 refine wpAny_bind (seqEpoch_at ho1 rfl ?_)
 refine wpAny_bind (wpAny_newTuple ?_)
 refine wpAny_bind (wpAny_newList ?_)
 refine wpAny_holding ?_
 have ho6:(wN s.heap a vs).get? a=some (seqObj "list" #[] e1):=by
  rw[Heap.get?_push_ne _ _ _ (by rw[size_push',Heap.size_update];exact Nat.ne_of_lt (Nat.lt_succ_of_lt ha)),Heap.get?_push_ne _ _ _ (by rw[Heap.size_update];exact Nat.ne_of_lt ha)]
  exact ho1
 show wpAny (model prog w) A _ P E {s with heap:=wN s.heap a vs}
 dsimp only
 have hsz:vs.toArray.size=vs.length:=by simp
 by_cases h2:vs.toArray.size<2
 ·rw [if_pos h2,if_pos h2]
  refine wpAny_bind (wpAny_pure ?_)
  rw[StateT.run_pure]
  refine wpAny_bind (wpAny_pure ?_)
  dsimp only
  refine wpAny_bind (seqEpoch_at ho6 rfl ?_)
  refine wpAny_bind (listUpdate_at ho6 rfl ?_ (hsz2:=by rw[Array.size_map];show(pairsOf vs).size≤_;rw[pairsOf_size,sizeLine_eq];omega))
  simp only[bne_self_eq_false,Bool.false_eq_true,if_false]
  have f:=h (List.toArray (List.range vs.length)) (List.Perm.refl _) (fun i j hij hj=>by omega)
  have e:(List.toArray ((List.toArray (List.range vs.length)).toList.map fun i=>vs.getD i Value.none))=(vs.toArray.zip vs.toArray).map (·.2):=by
   apply Array.toList_inj.mp
   apply List.ext_getElem
   ·simp
   ·intro i h1 h2
    have hi:i<vs.length:=by simpa using h1
    simp[hi]
  rw[e] at f
  exact wpAny_pure f
 ·rw [if_neg h2,if_neg h2]
  rw[hsz] at h2
  refine wpAny_bind (hkk (by omega) _ ?_)
  refine wpAny_bind (wpAny_mono (kat_run (ks:=vs) (κ:=κ) (Q:=fun st' s'=>s'={s with heap:=wN s.heap a vs}∧∃p:Array Nat,PP vs.length p∧Sd b vs.length p∧arrOf st'=p.map (kas_item (vs.toArray.zip vs.toArray))∧failedOf st'=none)
   (G:=fun p s'=>s'={s with heap:=wN s.heap a vs}∧PP vs.length p∧Sd b vs.length p) rfl (by omega) h64 (fun p st' s' a1 a2 a3 a4=>⟨a4.1,p,a4.2.1,a4.2.2,a2,a3⟩)
   (zjw O hc (by omega) fun p' q1 q2=>⟨rfl,q1,q2⟩)) ?_ fun _ _ e=>e)
  rintro⟨⟨⟩,st'⟩ s' ⟨rfl,p,hp,sd,har,hf⟩
  dsimp only
  have hout:=kat_snds (ks:=vs) rfl har
  rw[hout]
  have hz:(List.toArray (p.toList.map fun i=>vs.getD i Value.none)).size=vs.length:=by rw[List.size_toArray,List.length_map,Array.length_toList];exact hp.size
  refine wpAny_bind (seqEpoch_at ho6 rfl ?_)
  refine wpAny_bind (listUpdate_at ho6 rfl ?_ (hsz2:=by rw[hz,sizeLine_eq];omega))
  rw[hf]
  simp only[bne_self_eq_false,Bool.false_eq_true,if_false]
  exact wpAny_pure (h p hp sd)
abbrev qO (h:Heap)(vs:List Value):Heap:=((h.push (seqObj "list" #[] 0)).update h.objs.size (Obj.mapSeq (· ++ vs.toArray))).push (seqObj "list" vs.toArray 0)
theorem zjh {κ:SortKind}{b:Nat→Nat→Bool}{l:Addr}{vs:List Value}{Q:Value→Shared→Prop}(hl:s.heap.IsList l vs.toArray)(O:Ord vs.length b)
  (hkk:2≤vs.length→∀(A:Around) (E:Value→Shared→Prop) (Q:SortKind→Shared→Prop),Q κ {s with heap:=wN (qO s.heap vs) (s.heap.objs.size+1) vs}→wpAny (model prog w) A (keyKind' vs.toArray) Q E {s with heap:=wN (qO s.heap vs) (s.heap.objs.size+1) vs})
  (hc:∀(A:Around) i j (C:Bool→Shared→Prop),i<vs.length→j<vs.length→C (b i j) {s with heap:=wN (qO s.heap vs) (s.heap.objs.size+1) vs}→kas_ask prog w A κ vs i j C {s with heap:=wN (qO s.heap vs) (s.heap.objs.size+1) vs}) (h64:vs.length<64)
  (h:∀p,PP vs.length p→Sd b vs.length p→Q (.ref (s.heap.objs.size+1)) {s with heap:=sortedAll s.heap vs (List.toArray (p.toList.map fun i=>vs.getD i Value.none))}) :
  wpAny (model prog w) A (call (.builtin "sorted") [.ref l]) Q E s:=by
 refine Calls.call_function_entry kind_sorted plain_sorted entry_sorted (args_sorted1 _) ?_
 unfold Builtin.«sorted»
 refine wpAny_bind (m:=checkCount "sorted" 1 1 _) (wpAny_pure ?_)
 refine wpAny_bind (collect_list hl ?_)
 refine wpAny_bind (wpAny_newList ?_)
 have hsz:((s.heap.push (seqObj "list" #[] 0)).update s.heap.objs.size (Obj.mapSeq (· ++ vs.toArray))).objs.size=s.heap.objs.size+1:=by
  rw[Heap.size_update,size_push']
 have hoL:(qO s.heap vs).get? (s.heap.objs.size+1)=some (seqObj "list" vs.toArray 0):=by
  rw[← hsz];exact Heap.get?_push_size _ rfl
 show wpAny _ _ _ _ _ {s with heap:=qO s.heap vs}
 rw[hsz]
 refine wpAny_bind (wpAny_holding (wpAny_call_entry slot_list_sort ⟨_,hoL,rfl⟩ entry_list_sort (zbk (κ:=κ) (b:=b) (s:={s with heap:=qO s.heap vs}) hoL O (fun h2 Q q=>hkk h2 _ _ Q q) (fun i j C hi hj q=>hc _ i j C hi hj q) h64 fun p a1 a2=>⟨_,rfl,?_⟩) (args_list_sort _)))
 exact wpAny_pure ⟨_,rfl,h p a1 a2⟩
theorem jr {h:Heap}{vs:List Value}{b:Addr}{o:Obj}(e:h.get? b=some o):(wN (qO h vs) (h.objs.size+1) vs).get? b=some o:=by
 have hb:(b:Nat)<h.objs.size:=Heap.lt_size e
 have nn:∀k:Nat,b≠h.objs.size+k:=fun k=>Nat.ne_of_lt (Nat.lt_of_lt_of_le hb (Nat.le_add_right _ _))
 have nz:b≠h.objs.size:=Nat.ne_of_lt hb
 have hsz:((h.push (seqObj "list" #[] 0)).update h.objs.size (Obj.mapSeq (· ++ vs.toArray))).objs.size=h.objs.size+1:=by
  rw[Heap.size_update,size_push']
 have hs2:(qO h vs).objs.size=h.objs.size+2:=by rw[size_push',hsz]
 rw [Heap.get?_push_ne _ _ _ (by rw[size_push',Heap.size_update,hs2];exact nn 3),Heap.get?_push_ne _ _ _ (by rw[Heap.size_update,hs2];exact nn 2),Heap.get?_update_ne _ _ _ _ (nn 1),
  Heap.get?_push_ne _ _ _ (by rw[hsz];exact nn 1),Heap.get?_update_ne _ _ _ _ nz,Heap.get?_push_ne _ _ _ nz]
 exact e
end
def zni:Key→Bool
 | .inl _=>true
 | .inr _=>false
structure Srtb (kss:List (List Key)):Prop where
 ne:∃c,∀ks∈kss,∃k r,ks=k::r∧zni k=c
 ok:∀x∈kss,∀y∈kss,zjL x y=true
 nd:kss.Nodup
section
variable {X:Cx}
theorem Srtb.ord {kss:List (List Key)}(h:Srtb kss):Ord kss.length fun i j=>zbK (kss.getD i []) (kss.getD j []):=by
 have mem:∀i,i<kss.length→kss.getD i []∈kss:=fun i hi=>by rw[List.getD_eq_getElem?_getD,List.getElem?_eq_getElem hi];exact List.getElem_mem hi
 refine⟨fun i j k _ _ _ a b=>zbY a b,fun i j hi hj hij e=>zcm (h.ok _ (mem i hi) _ (mem j hj)) (fun z=>hij ?_) e,fun i _=>zbW _⟩
 rw[List.getD_eq_getElem?_getD,List.getD_eq_getElem?_getD,List.getElem?_eq_getElem hi,List.getElem?_eq_getElem hj] at z
 have pw:=List.pairwise_iff_getElem.mp h.nd
 rcases Nat.lt_trichotomy i j with c|c|c
 ·exact absurd z (pw i j hi hj c)
 ·exact c
 ·exact absurd z.symm (pw j i hj hi c)
theorem zdv:qR X (.builtin "sorted") (fun xs H Q=>∃(a:Addr) (ts:List Addr) (kss:List (List Key)),xs=[.ref a]∧SqL X.K H a (ts.map V.ref)∧ts.length=kss.length∧(∀i,i<kss.length→SqT X.K H (ts.getD i 0) ((kss.getD i []).map kV))∧Srtb kss∧kss.length<64 ∧
  ∀p (π:List Nat),H p=none→π.Perm (List.range kss.length)→(∀i j,i<j→j<kss.length→zbK (kss.getD (π.getD i 0) []) (kss.getD (π.getD j 0) [])=true)→Q (.ref p) (upd H p (.lst (π.map fun i=>V.ref (ts.getD i 0))))):=by
 intro pins s σ H xs us Q I r h
 obtain⟨a,ts,kss,rfl,ha,hlen,hk,sb,h64,q⟩:=h
 obtain⟨u,rfl,ru⟩:=vals1 r
 cases ru
 obtain⟨its,rv,pl,hz⟩:=I.list ha
 have hl:its.length=kss.length:=by have:=rv.length;simp only[List.length_map] at this;omega
 have hv:∀i,i<kss.length→its.getD i Value.none=.ref (ts.getD i 0):=fun i hi=>by
  have h1:i<(ts.map V.ref).length:=by rw[List.length_map];omega
  have h2:i<its.length:=by omega
  have e1:(ts.map V.ref)[i]? = some (V.ref (ts.getD i 0)):=by
   rw[List.getElem?_map,List.getElem?_eq_getElem (by omega),List.getD_eq_getElem?_getD,List.getElem?_eq_getElem (by omega)];rfl
  obtain⟨u,hu,ru⟩:=rv.get e1
  rw[List.getD_eq_getElem?_getD,hu]
  cases ru;rfl
 have tup:∀i,i<kss.length→∃vs:List Value,Vals ((kss.getD i []).map kV) vs∧∃o,s.heap.get? (ts.getD i 0)=some o∧o.cls=.type "tuple" ∧ ∃n,o.data=.seq vs.toArray n:=fun i hi=>by
  obtain⟨vs,r1,p1,_⟩:=I.tuple (hk i hi)
  exact⟨vs,r1,p1⟩
 obtain⟨c,hne⟩:=sb.ne
 have mem:∀i,i<kss.length→kss.getD i []∈kss:=fun i hi=>by rw[List.getD_eq_getElem?_getD,List.getElem?_eq_getElem hi];exact List.getElem_mem hi
 have O:=sb.ord
 rw[← hl] at O
 refine zjh (κ:=tuples' true) pl.isList O (fun h2 A E Q q=>?_) (fun A i j C hi hj q=>?_) (by omega) fun p hp sd=>?_
 ·-- the kind
  have key:∀(l:List Nat),(∀i∈l,i<kss.length)→∃fs:List Value,KatTups (wN (qO s.heap its) (s.heap.objs.size+1) its) (l.map fun i=>its.getD i Value.none) fs∧fs.length=l.length∧∀v∈fs,if c then ∃n t,v=.int n t else ∃x t,v=.str x t:=by
   intro l
   induction l with
   | nil=>exact fun _=>⟨[],KatTups.nil,rfl,fun v hv=>by cases hv⟩
   | cons i l ih =>
    intro hl'
    obtain⟨fs,k1,k2,k3⟩:=ih fun j hj=>hl' j (List.mem_cons_of_mem _ hj)
    have hi:=hl' i List.mem_cons_self
    obtain⟨vs,r1,o,ho,hcl,n,hd⟩:=tup i hi
    obtain⟨k,rr,e,kc⟩:=hne _ (mem i hi)
    rw[e,List.map_cons] at r1
    cases r1 with
    | cons rp r1 =>
     rename_i f vs'
     refine⟨f::fs,?_,by simp[k2],fun v hv=>?_⟩
     ·rw[List.map_cons,hv i hi]
      exact KatTups.cons (jr ho) hcl hd (by simp) k1
     ·rcases List.mem_cons.mp hv with rfl|hv
      ·cases k with
       | inl z=>obtain⟨t,rfl⟩:=rp;rw[← kc];exact⟨z,t,rfl⟩
       | inr z=>obtain⟨t,rfl⟩:=rp;rw[← kc];exact⟨z,t,rfl⟩
      ·exact k3 v hv
  obtain⟨fs,k1,k2,k3⟩:=key (List.range its.length) fun i hi=>by have:=List.mem_range.mp hi;omega
  have e:(List.range its.length).map (fun i=>its.getD i Value.none)=its:=by
   apply List.ext_getElem
   ·simp
   ·intro i h1 h2
    simp[h2]
  rw[e] at k1
  rw[List.length_range] at k2
  cases c with
  | true =>
   refine kat_kind (T:=.type "int") k1 (by omega) (fun v hv=>?_) rfl q
   obtain⟨n,t,rfl⟩:=k3 v hv
   exact .now
  | false =>
   refine kat_kind (T:=.type "str") k1 (by omega) (fun v hv=>?_) rfl q
   obtain⟨n,t,rfl⟩:=k3 v hv
   exact .now
 ·rw[hl] at hi hj
  obtain⟨vi,ri,oi,hoi,hci,ni,hdi⟩:=tup i hi
  obtain⟨vj,rj,oj,hoj,hcj,nj,hdj⟩:=tup j hj
  unfold kas_ask
  rw[hv i hi,hv j hj]
  have li:=ri.length
  have lj:=rj.length
  simp only[List.length_map] at li lj
  refine kat_lt (s:={s with heap:=wN (qO s.heap its) (s.heap.objs.size+1) its}) (jr hoi) hdi (jr hoj) hdj (zgh _ _ _ _ 0 ri rj (sb.ok _ (mem i hi) _ (mem j hj)) ?_ q)
  rw[List.size_toArray,List.size_toArray,li,lj]
 ·have hps:=hp.size
  obtain⟨c',hat⟩:=sortedAll_at s.heap its (List.toArray (p.toList.map fun i=>its.getD i Value.none))
  rw[hl] at hps sd
  have hp':p.toList.Perm (List.range kss.length):=by rw[← hl];exact hp
  refine⟨.ref (s.heap.objs.size+1),_,I.laid (t':=s.toks) (o:=.lst (p.toList.map fun i=>V.ref (ts.getD i 0))) (fun b o e=>sortedAll_old e) (Nat.le_succ _) ?_,rfl,q _ p.toList (I.hok.fresh (Nat.le_succ _)) hp' fun i j hij hj=>?_⟩
  ·refine ⟨?_,p.toList.map fun i=>its.getD i Value.none,c',?_,hat⟩
   ·rw[List.length_map,Array.length_toList,sizeLine_eq];omega
   ·refine zfD (by simp) fun j x u hx hu=>?_
    rw[List.getElem?_map] at hx hu
    cases e:p.toList[j]? with
    | none=>rw[e] at hx;cases hx
    | some i =>
     rw[e] at hx hu
     have hi:i<kss.length:=List.mem_range.mp (hp'.mem_iff.mp (List.mem_of_getElem? e))
     cases hx
     cases hu
     show RelV (V.ref (ts.getD i 0)) (its.getD i Value.none)
     rw[hv i hi]
     rfl
  ·have:=sd i j hij hj
   rw[gd,gd] at this
   rw[List.getD_eq_getElem?_getD,List.getD_eq_getElem?_getD]
   simpa using this
end
end L2
namespace L2
open PySem PySem.W PyProof.Rows
def kOf:D→Key
 | .int i=>.inl i
 | .str l=>.inr (T l)
 | _=>.inl 0
def isAt:D→Bool
 | .int _=>true
 | .str _=>true
 | _=>false
def tOf:D→List D
 | .tup ds=>ds
 | _=>[]
def zaF (d:D):List Key:=(tOf d).map kOf
def zmJ:D→Bool
 | .tup ds=>ds.all isAt
 | _=>false
def zks (x:D):List D→List D
 | []=>[x]
 | y::ys=>if zbK (zaF x) (zaF y) then x::y::ys else y::zks x ys
def zcd (ds:List D):List D:=ds.foldr zks []
def zkt (ds:List D):Prop:=Srtb (ds.map zaF)∧(∀d∈ds,zmJ d=true)∧ds.length<64
open Classical in
noncomputable def zai:List D→Option (List D)
 | [.lst ds]=>if zkt ds then some (zcd ds) else none
 | _=>none
theorem zfv {ds:List D}(h:zkt ds):zai [.lst ds]=some (zcd ds):=if_pos h
theorem zfe {ds z:List D}(h:zai [.lst ds]=some z):zkt ds∧zcd ds=z:=by
 by_cases e:zkt ds
 ·rw[zfv e] at h;exact⟨e,Option.some.inj h⟩
 ·rw[show zai [.lst ds]=none from if_neg e] at h;cases h
theorem zgK {ds:List D}(h:zkt ds):zai [.lst ds]=some (zcd ds):=if_pos h
theorem zbg (x:D):∀ys:List D,(zks x ys).Perm (x::ys)
 | []=>List.Perm.refl _
 | y::ys=>by
  unfold zks
  split
  ·exact List.Perm.refl _
  ·exact((zbg x ys).cons y).trans (List.Perm.swap x y ys)
theorem kI:∀ds:List D,(zcd ds).Perm ds
 | []=>List.Perm.refl _
 | d::ds=>(zbg d (zcd ds)).trans ((kI ds).cons d)
def RisP (ds:List D):Prop:=ds.Pairwise fun a b=>zbK (zaF a) (zaF b)=true
theorem zew {x:D}:∀{ys:List D},RisP ys→(∀y∈ys,zjL (zaF x) (zaF y)=true∧zaF x≠zaF y)→RisP (zks x ys)
 | [],_,_=>List.pairwise_singleton _ _
 | y :: ys,r,h=>by
  unfold zks
  obtain⟨r1,r2⟩:=List.pairwise_cons.mp r
  by_cases e:zbK (zaF x) (zaF y)=true
  ·rw[if_pos e]
   refine List.pairwise_cons.mpr ⟨fun z hz=>?_,r⟩
   rcases List.mem_cons.mp hz with rfl|hz
   ·exact e
   ·exact zbY e (r1 z hz)
  ·rw [if_neg e]
   refine List.pairwise_cons.mpr ⟨fun z hz=>?_,zew r2 fun z hz=>h z (List.mem_cons_of_mem _ hz)⟩
   rcases List.mem_cons.mp ((zbg x ys).mem_iff.mp hz) with rfl|hz
   ·obtain⟨o,n⟩:=h y List.mem_cons_self
    exact zcm o n (by simpa using e)
   ·exact r1 z hz
theorem za6:∀{ds:List D},Srtb (ds.map zaF)→RisP (zcd ds)
 | [],_=>List.Pairwise.nil
 | d::ds,h=>by
  have nd:=h.nd
  rw[List.map_cons,List.nodup_cons] at nd
  have h':Srtb (ds.map zaF):=by
   obtain⟨c,hc⟩:=h.ne
   exact⟨⟨c,fun ks hk=>hc ks (by rw[List.map_cons];exact List.mem_cons_of_mem _ hk)⟩,fun x hx y hy=>h.ok x (by rw[List.map_cons];exact List.mem_cons_of_mem _ hx) y (by rw[List.map_cons];exact List.mem_cons_of_mem _ hy),nd.2⟩
  refine zew (za6 h') fun y hy=>?_
  have hy':=(kI ds).mem_iff.mp hy
  have my:zaF y∈ds.map zaF:=List.mem_map.mpr ⟨y,hy',rfl⟩
  exact⟨h.ok _ (by rw[List.map_cons];exact List.mem_cons_self) _ (by rw[List.map_cons];exact List.mem_cons_of_mem _ my),fun e=>nd.1 (e▸my)⟩
theorem RisP.unique {a b:List D}(ha:RisP a)(hb:RisP b)(p:a.Perm b):a=b:=List.Perm.eq_of_pairwise (fun x y _ _ h k=>by have:=zbY h k;rw[zbW] at this;cases this) ha hb p
theorem zfl {ds:List D}(h:Srtb (ds.map zaF))(r:RisP ds):zcd ds=ds:=(za6 h).unique r (kI ds)
section
variable {K:PySem.W.Frag}{cl:Nat→Addr}{F:Hp}
theorem Dts.atoms:∀{vs:List V}{ds:List D},Dts K cl F vs ds→ds.all isAt=true→vs=(ds.map kOf).map kV
 | _,_,.nil,_=>rfl
 | _,_,.cons q r,h=>by
  rw[List.all_cons,Bool.and_eq_true] at h
  have e:=Dts.atoms r h.2
  cases q with
  | int i=>rw[e];rfl
  | str l ok=>rw[e];rfl
  | _=>simp[isAt] at h
theorem Dts.tups:∀{vs:List V}{ds:List D},Dts K cl F vs ds→(∀d∈ds,zmJ d=true)→∃ts:List Addr,vs=ts.map V.ref∧ts.length=ds.length∧∀i,i<ds.length→SqT K F (ts.getD i 0) (((ds.map zaF).getD i []).map kV)
 | _,_,.nil,_=>⟨[],rfl,rfl,fun i hi=>by simp at hi⟩
 | _,_,.cons q r,h=>by
  obtain⟨ts,e1,e2,e3⟩:=Dts.tups r fun d hd=>h d (List.mem_cons_of_mem _ hd)
  have h0:=h _ List.mem_cons_self
  cases q with
  | tup sq dq =>
   rename_i a xs ds'
   have ex:=dq.atoms h0
   refine⟨a::ts,by rw[e1];rfl,by simp[e2],fun i hi=>?_⟩
   cases i with
   | zero=>show SqT K F a ((ds'.map kOf).map kV);rw[← ex];exact sq
   | succ i=>exact e3 i (by simpa using hi)
  | _=>simp[zmJ] at h0
end
section
variable {X:Cx}{cl:Nat→Addr}{E:XK}{e:Expr}{fa:Rho→Rs D}{p pos:Pos}
theorem zlQ {α:Type}{d:α}(ds:List α)(π:List Nat)(hp:π.Perm (List.range ds.length)):(π.map fun i=>ds.getD i d).Perm ds:=by
 have h:=hp.map fun i=>ds.getD i d
 have e:(List.range ds.length).map (fun i=>ds.getD i d)=ds:=by
  apply List.ext_getElem
  ·simp
  ·intro i h1 h2
   simp[h2]
 rw[e] at h
 exact h
theorem zhU (hg:Gl X "sorted")(hm:X.mg "sorted" = none)(hv:bootBuiltins "sorted" = some (.builtin "sorted"))(h:XE X cl E e fa)(hs:starEach [e] X.env=(false,eval e X.env)::starEach [] X.env)(hpl:(backTo pos (starEach [] X.env)).any (·.1)=false:=by rfl):XL X cl E (.Call (.Name "sorted" p) [e] [] pos) (fL zai (zb fa zA)):=by
 obtain⟨t,pt,rt⟩:=(zc h zu hs).ex
 refine⟨_,ju zdv hg hm hv pt (by decide) (by decide) hs hpl,fun H0 F0 ρ σ H F Q R o=>rt H0 F0 ρ σ H F _ R (OutA.fstA o fun ds vs H1 F1 g q o1=>?_)⟩
 obtain⟨z,hz,k⟩:=o1.lf
 have fh:=(R.grow g).fh
 match ds,q,hz with
 | [.lst l],q,hz =>
  obtain⟨v,rfl,q1⟩:=q.one
  cases q1 with
  | lst sq dq =>
   obtain⟨hS,rfl⟩:=zfe hz
   obtain⟨ts,e1,e2,e3⟩:=dq.tups hS.2.1
   rw[e1] at sq
   have hl:(l.map zaF).length=l.length:=List.length_map ..
   refine⟨_,ts,l.map zaF,rfl,fh.seq sq,by rw[hl];exact e2,fun i hi=>fh.seqT (e3 i (by omega)),hS.1,by rw[hl];exact hS.2.2,fun p π hp pm rs=>?_⟩
   rw[hl] at pm rs
   have pl:π.length=l.length:=by have:=pm.length_eq;simpa using this
   have hmem:∀i∈π,i<l.length:=fun i hi=>List.mem_range.mp (pm.mem_iff.mp hi)
   have er:RisP (π.map fun i=>l.getD i .non):=by
    refine List.pairwise_iff_getElem.mpr fun i j hi hj hij=>?_
    have hi':i<π.length:=by simpa using hi
    have hj':j<π.length:=by simpa using hj
    have r1:=rs i j hij (by omega)
    have gk:∀i (h:i<π.length),(l.map zaF).getD (π.getD i 0) []=zaF (l.getD π[i] .non):=fun i h=>by
     have hm:=hmem π[i] (List.getElem_mem h)
     have e0:π.getD i 0=π[i]:=by rw[List.getD_eq_getElem?_getD,List.getElem?_eq_getElem h];rfl
     rw[e0,List.getD_eq_getElem?_getD,List.getD_eq_getElem?_getD,List.getElem?_map,List.getElem?_eq_getElem hm]
     rfl
    rw[gk i hi',gk j hj'] at r1
    simpa using r1
   have ez:(π.map fun i=>l.getD i .non)=zcd l:=er.unique (za6 hS.1) ((zlQ l π pm).trans (kI l).symm)
   refine k _ _ _ (Gr.refl fh) ?_ p hp
   rw[← ez]
   have key:∀(π:List Nat),(∀i∈π,i<l.length)→Dts X.K cl F1 (π.map fun i=>V.ref (ts.getD i 0)) (π.map fun i=>l.getD i .non):=by
    intro π
    induction π with
    | nil=>exact fun _=>.nil
    | cons i π ih =>
     intro hm
     have hi:=hm i List.mem_cons_self
     refine .cons ?_ (ih fun j hj=>hm j (List.mem_cons_of_mem _ hj))
     have:=dq.getDt i hi
     rw[e1] at this
     have ev:(ts.map V.ref).getD i .non=V.ref (ts.getD i 0):=by
      rw[List.getD_eq_getElem?_getD,List.getD_eq_getElem?_getD,List.getElem?_map,List.getElem?_eq_getElem (by omega)]
      rfl
     rw[ev] at this
     exact this
   exact key π hmem
end
end L2
namespace L2
open PySem PySem.Spec PyProof.Rows
theorem ze0 {G1 G2:Hp→Prop}{xs ys:List V}(hz:xs.length≤sizeLine){g:TG}{tt:TT}{te:TE}{σ0:St}{F:List V→Hp→Prop}{H1:Hp}(Pv:Nat→List V→Hp→Prop)(h0:Pv 0 [] H1)(hG:∀i vs H,Pv i vs H→G1 H∧G2 H∧vs.length≤i)
  (hs:∀i x y p vs H,xs[i]? = some x→ys[i]? = some y→H p=none→Pv i vs H→g (.ref p) σ0 (upd H p (.tup [x,y])) fun σ2 H2=>Kps σ0 σ2∧tt σ2 H2 fun b H3=>if b=true then te σ2 H3 fun v H4=>Pv (i+1) (vs++[v]) H4 else Pv (i+1) vs H3) (hd:∀vs H,Pv (min xs.length ys.length) vs H→F vs H) :
  jz g tt te σ0 F (zl0 G1 G2 xs ys) H1:=by
 refine⟨fun i m vs H=>m=min xs.length ys.length - i∧i≤min xs.length ys.length∧Pv i vs H,⟨_,rfl,Nat.zero_le _,h0⟩,?_⟩
 rintro i m vs H ⟨rfl,hi,p⟩
 obtain⟨q1,q2,hl⟩:=hG i vs H p
 refine⟨by omega,?_⟩
 by_cases hlt:i<min xs.length ys.length
 ·refine .inr ⟨⟨q1,q2,hlt⟩,by omega,Pv (i+1),fun vs' H' p'=>⟨min xs.length ys.length - (i+1),by omega,rfl,hlt,p'⟩,?_⟩
  rintro v H' ⟨a,x,y,e0,e1,e2,rfl,rfl⟩
  exact hs i x y a vs H e1 e2 e0 p
 ·have e:i=min xs.length ys.length:=by omega
  subst e
  exact .inl ⟨⟨q1,q2,Nat.le_refl _⟩,hd vs H p⟩
def gz:D→Option (List D)
 | .tup ds=>some ds
 | .lst ds=>some ds
 | .str l=>if l.all (· < 128) then some (l.map fun c=>.str [c]) else none
 | _=>none
theorem ziR {K:PySem.W.Frag}{cl:Nat→Addr}{F:Hp}{v:V}{d:D}{ds:List D}(q:Dt K cl F v d)(e:gz d=some ds):∃xs G,Dts K cl F xs ds∧zj5 K F v xs G∧∀H,Same F H→zj5 K H v xs G∧G H:=by
 cases q with
 | tup sq dq =>
  cases e
  exact⟨_,_,dq,.inl ⟨_,rfl,sq,rfl⟩,fun H s=>⟨.inl ⟨_,rfl,s.seqT sq,rfl⟩,s.seqT sq⟩⟩
 | lst sq dq =>
  cases e
  exact⟨_,_,dq,.inr (.inl ⟨_,rfl,sq,rfl⟩),fun H s=>⟨.inr (.inl ⟨_,rfl,s.seq sq,rfl⟩),s.seq sq⟩⟩
 | str l ok =>
  have e':(if l.all (· < 128) then some (l.map fun c=>D.str [c]) else none)=some ds:=e
  by_cases ha:l.all (· < 128)=true
  ·rw[if_pos ha] at e'
   cases e'
   have ha':∀c∈l,c<128:=fun c hc=>by simpa using List.all_eq_true.mp ha c hc
   exact⟨vC l,fun _=>True,zaY fun c hc=>zmb ok hc,.inr (.inr ⟨l,rfl,ha',rfl,rfl⟩),fun H s=>⟨.inr (.inr ⟨l,rfl,ha',rfl,rfl⟩),trivial⟩⟩
  ·rw[if_neg ha] at e'
   cases e'
 | _=>cases e
section
variable {X:Cx}{cl:Nat→Addr}{E:XK}{a b:Expr}{fa fb:Rho→Rs D}{p pos zpos tp px py:Pos}{x y:Str}{k:Nat}
variable {scope:Scope}{caps:List Nat}{elt:Expr}{ifs:List Expr}{ft:Rho→Rs Bool}{fe:Rho→Rs D}
def zhk (fa fb:Rho→Rs D)(ft:Rho→Rs Bool)(fe:Rho→Rs D)(caps:List Nat):Rho→Rs (List D):=fun ρ=>match fa ρ,fb ρ with
 | .ok a,.ok b=>(match gz a,gz b with
  | some ds,some cs=>(match wJ ft fe (vY 2 caps ρ) ds cs with | .ok es=>if ds.length≤1000000 then .ok es else .no|_=>.no)
  | _,_=>.no)
 | _,_=>.no
theorem zic {K:PySem.W.Frag}{H0 F H:Hp}{ρ:Rho}{Q:List V→Hp→Prop}(o:OutA K cl E H0 F H (zhk fa fb ft fe caps ρ) Q):∃da db ds cs es,fa ρ=.ok da∧fb ρ=.ok db∧gz da=some ds∧gz db=some cs∧wJ ft fe (vY 2 caps ρ) ds cs=.ok es∧ds.length≤1000000∧OutA K cl E H0 F H (.ok es) Q:=by
 unfold zhk at o
 split at o
 ·rename_i da db e1 e2
  split at o
  ·rename_i ds cs e3 e4
   split at o
   ·rename_i es e5
    split at o
    ·rename_i hl;exact⟨da,db,ds,cs,es,e1,e2,e3,e4,e5,hl,o⟩
    ·exact o.elim
   ·exact o.elim
  ·exact o.elim
 ·exact o.elim
theorem zjH {ρ:Rho}{da db:D}{ds cs es:List D}(e1:fa ρ=.ok da)(e2:fb ρ=.ok db)(e3:gz da=some ds)(e4:gz db=some cs)(hl:ds.length≤1000000)(e5:wJ ft fe (vY 2 caps ρ) ds cs=.ok es):zhk fa fb ft fe caps ρ=.ok es:=by
 unfold zhk
 simp only[e1,e2,e3,e4,e5]
 rw[if_pos hl]
theorem zg2 {t u:TE}{H0 F0:Hp}{ρ:Rho}{σ:St}{H F:Hp}{P:List V→Hp→Prop}(rt:∀(H0 F0:Hp) (ρ:Rho) (σ:St) (H F:Hp) (Q:VK),Rl X.K cl H0 F0 ρ σ H F→OutE X.K cl E H0 F H (fa ρ) Q→t σ H Q)(ru:∀(H0 F0:Hp) (ρ:Rho) (σ:St) (H F:Hp) (Q:VK),Rl X.K cl H0 F0 ρ σ H F→OutE X.K cl E H0 F H (fb ρ) Q→u σ H Q)
  (R:Rl X.K cl H0 F0 ρ σ H F) (o:OutA X.K cl E H0 F H (zhk fa fb ft fe caps ρ) P):zlF X.K t u σ H fun J H1=>jz (zjt X.K 2 (j7 (qx 0) (j7 (qx 1) zjx))) (tDB X.K cl E0 ft) (tDE X.K cl E0 fe) (zcD [x,y] caps σ) P J H1:=by
 refine rt H0 F0 ρ σ H F _ R ?_
 obtain⟨da,db,ds,cs,es,e1,e2,ga,gb,hcz,hl,o⟩:=zic o
 rw[e1]
 intro v1 H1 F1 g1 q1
 have R1:=R.grow g1
 refine ru H0 F0 ρ σ H1 F1 _ R1 ?_
 rw[e2]
 intro v2 H2 F2 g2 q2
 have R2:=R1.grow g2
 obtain⟨xs1,G1,dq1,_,z1⟩:=ziR (q1.mono g2.ff) ga
 obtain⟨xs2,G2,dq2,_,z2⟩:=ziR q2 gb
 refine⟨_,_,_,_,_,_,rfl,(z1 _ R2.fh).1,(z2 _ R2.fh).1,?_⟩
 refine ze0 (sz6 (dq1.length▸hl)) (fun m ys H'=>∃F' es1 es2,Gr F2 H2 F' H'∧Dts X.K cl F' ys es1∧ys.length≤m∧es=es1++es2∧wJ ft fe (vY 2 caps ρ) (ds.drop m) (cs.drop m)=.ok es2) ⟨F2,[],es,Gr.refl R2.fh,.nil,Nat.le_refl _,rfl,hcz⟩ (fun m ys H' ⟨F',_,_,gg,_,h1,_⟩=>⟨(z1 _ (gg.ff.trans gg.fh)).2,(z2 _ (gg.ff.trans gg.fh)).2,h1⟩) ?_ ?_
 ·rintro m z1 z2 pp ys H' hx hy hpp ⟨F',es1,es2,gg,qs,hly,rfl,hc'⟩
  obtain⟨c1,hd1,qd1⟩:=dq1.get hx
  obtain⟨c2,hd2,qd2⟩:=dq2.get hy
  have r1:ds.drop m=c1::ds.drop (m+1):=by
   obtain⟨hk,e3⟩:=List.getElem?_eq_some_iff.mp hd1
   rw[List.drop_eq_getElem_cons hk,e3]
  have r2:cs.drop m=c2::cs.drop (m+1):=by
   obtain⟨hk,e3⟩:=List.getElem?_eq_some_iff.mp hd2
   rw[List.drop_eq_getElem_cons hk,e3]
  rw[r1,r2] at hc'
  unfold wJ at hc'
  have gz:Gr F' H' F' (upd H' pp (.tup [z1,z2])):=Gr.newO (gg.fh) hpp
  have Rz:=((R2.grow gg).grow gz).cap [x,y] caps
  have Rw:Rl X.K cl (upd H' pp (.tup [z1,z2])) F' (((vY 2 caps ρ).set 0 (.fz c1)).set 1 (.fz c2)) (((zcD [x,y] caps σ).set 0 (some z1)).set 1 (some z2)) (upd H' pp (.tup [z1,z2])) F':=(Rz.set (qd1.mono gg.ff)).set (qd2.mono gg.ff)
  refine⟨pp,[z1,z2],rfl,.inl (.inl yg),rfl,z1,_,rfl,z2,_,rfl,rfl,?_,_,F',_,F',Rw,?_⟩
  ·exact(Kps.set rfl).trans (Kps.set rfl)
  ·cases e3:ft (((vY 2 caps ρ).set 0 (.fz c1)).set 1 (.fz c2)) with
   | ok bb =>
    rw[e3] at hc'
    intro H3 F3 g3
    cases bb with
    | true =>
     rw[if_pos rfl]
     cases e4:fe (((vY 2 caps ρ).set 0 (.fz c1)).set 1 (.fz c2)) with
     | ok ee =>
      simp only[e4] at hc'
      refine⟨_,F',_,F3,Rw.grow g3,?_⟩
      rw[e4]
      intro yy H4 F4 g4 qy
      cases e5:wJ ft fe (vY 2 caps ρ) (ds.drop (m+1)) (cs.drop (m+1)) with
      | ok es3 =>
       rw[e5] at hc'
       injection hc' with hc'
       exact⟨F4,es1++[ee],es3,gg.trans (gz.trans (g3.trans g4)),(qs.mono (g3.ff.trans g4.ff)).append (.cons qy .nil),by simp;exact hly,by rw[← hc',List.append_assoc];rfl,rfl⟩
      | ex n=>rw[e5] at hc';cases hc'
      | no=>rw[e5] at hc';cases hc'
     | ex n=>simp only[e4] at hc';cases hc'
     | no=>simp only[e4] at hc';cases hc'
    | false =>
     rw[if_neg Bool.false_ne_true]
     exact⟨F3,es1,es2,gg.trans (gz.trans g3),qs.mono g3.ff,Nat.le_succ_of_le hly,rfl,hc'⟩
   | ex n=>rw[e3] at hc';cases hc'
   | no=>rw[e3] at hc';cases hc'
 ·rintro ys H' ⟨F',es1,es2,gg,qs,hly,rfl,hc'⟩
  rw[dq1.length,dq2.length] at hc'
  have e5:wJ ft fe (vY 2 caps ρ) (ds.drop (min ds.length cs.length)) (cs.drop (min ds.length cs.length))=.ok []:=by
   rcases Nat.le_total ds.length cs.length with h|h
   ·rw[Nat.min_eq_left h,List.drop_of_length_le (Nat.le_refl ds.length)];unfold wJ;rfl
   ·rw[Nat.min_eq_right h,List.drop_of_length_le (Nat.le_refl cs.length)]
    cases ds.drop cs.length <;>(unfold wJ;rfl)
  rw[e5] at hc'
  injection hc' with hc'
  rw[← hc',List.append_nil] at o
  exact o ys H' F' (g1.trans (g2.trans gg)) qs
theorem zgO (ok:CompOk X scope caps)(hc:X.calm=true)(hz:Gl X "zip")(hm:X.mg "zip" = none)(ha:XE X cl E a fa)(hb:XE X cl E b fb)(CI:CompZ X cl scope x y caps (.Tuple [.Name x px,.Name y py] k tp) ifs elt ft fe)(hs:starEach [a,b] X.env=[(false,eval a X.env),(false,eval b X.env)])(hs2:starEach [b] X.env=[(false,eval b X.env)]) :
  XL X cl E (.ListComp elt [⟨.Tuple [.Name x px,.Name y py] k tp,.Call (.Name "zip" p) [a,b] [] zpos,ifs,0⟩] scope pos) (zhk fa fb ft fe caps):=by
 obtain⟨t,pt,rt⟩:=ha.ex
 obtain⟨u,pu,ru⟩:=hb.ex
 refine⟨_,zdV ok hc (zjc hz hm pt pu hs hs2) (g:=zjt X.K 2 (j7 (qx 0) (j7 (qx 1) zjx))) (tt:=tDB X.K cl E0 ft) (te:=tDE X.K cl E0 fe) ⟨CI.tgt,CI.tst,CI.elm⟩,fun H0 F0 ρ σ H F Q R o=>zg2 rt ru R o⟩
end
end L2
namespace L2
open PySem PySem.Spec PyProof.Rows
end L2
namespace L2
open PySem PySem.Spec PyProof.Rows
end L2
namespace L2
open PySem PySem.Spec PyProof.Rows
end L2
namespace L2
open PySem PySem.Spec PyProof.Rows
end L2
set_option maxHeartbeats 4000000
namespace Pg
open PySem L2 PyProof.Rows
def uq:Rho→Out :=
  (zV (sIf (bT (f2 (eqD false) (fNm 0) (fO mkL zA)))
  (yO (f2 zcB (fC (.int 7)) (fNm 1)))
  sNx)
  (yO (f2 v5 (f2 ixD (fNm 0) (f2 zcS (fNm 1) (fO vd (zb (fNm 0) zA)))) (f2 zcB (fC (.int 6553)) (f2 zav (fNm 1) (fO vd (zb (fNm 0) zA)))))))
def uL:List D→Rs D:=yx 2 uq
def vN:Rho→Out :=
  (zV (yL 3 (f2 zcS (f2 v5 (f2 zcB (f2 zcS (fA (ari 2 uL) (zb (fNm 0) (zb (fNm 1) zA))) (fC (.int 2147483563))) (fC (.int 69069))) (f2 zcB (fC (.int 104723)) (f2 v5 (fNm 1) (fC (.int 1))))) (fC (.int 2147483563))))
  (zV (yL 3 (f2 zcS (f2 v5 (f2 zcB (fNm 3) (fNm 3)) (f2 zav (fNm 3) (fC (.int 3)))) (fC (.int 2147483399))))
  (yO (f2 zcS (f2 zav (f2 zcS (f2 v5 (f2 zcB (fNm 3) (fNm 3)) (f2 zav (fNm 3) (fC (.int 7)))) (fC (.int 2147483647))) (fC (.int 11))) (fNm 2)))))
def zP:List D→Rs D:=yx 4 vN
def uo:Rho→Out :=
  (zV (vU 4 (fCp (fR j9 (zb (fNm 2) zA)) wj (f2 ixD (fC (.str [97,98,99,100])) (fNm 0)) []))
  (zV (qQ (uz 5 (fR j9 (zb (fNm 3) zA))
  (zV (zcC 4 6 (fFl 4 (fA (ari 3 zP) (zb (fNm 0) (zb (f2 v5 (fNm 1) (fNm 5)) (zb (fO vd (zb (fNm 4) zA)) zA))))))
  (zbn 4 (vU 4 (fL zgr (zb (fLs (fL2 zf8 (fNm 4) (xN (fR j9 (zb (fNm 2) zA)) wj (f2 q9 (fNm 1) (f2 ixD (fC (.str [97,98,99,100])) (fNm 0))) [6]))) zA)))))))
  (zbn 4 (yO (fO zmT (zb (fNm 4) zA))))))
def qM:List D→Rs D:=yx 7 uo
def qz:Rho→Out :=
  (yO (fO zkv (zb (fLs (fCz (fNm 0) (fSl (fNm 0) (zY (fC (.int 1))) yF) wj (f2 ltS (fNm 0) (fNm 1)) [])) zA)))
def uE:List D→Rs D:=yx 1 qz
def jT:Rho→Out :=
  (yO (zbw (f1 (zbG isInt) (fNm 0)) (zdO (f1 (zbG isBool) (fNm 0)))))
def jt:List D→Rs D:=yx 1 jT
def uK:Rho→Out :=
  (yO (zbw (fA (ari 1 jt) (zb (fNm 0) zA)) (fCh leI leI (fNm 1) (fNm 0) (fNm 2))))
def xr:List D→Rs D:=yx 3 uK
def yK:Rho→Out :=
  (yO (fA (ari 3 xr) (zb (fNm 0) (zb (fC (.int 2)) (zb (fO vd (zb (fC (.str [97,98,99,100])) zA)) zA)))))
def yC:List D→Rs D:=yx 1 yK
def uF:Rho→Out :=
  (zV (yL 2 (fSl (fC (.str [97,98,99,100])) yF (zY (fNm 0))))
  (yO (zbw (f1 (zbG isStr) (fNm 1)) (fO zkv (zb (xN (fI sgD (fNm 1)) wj (f2 (inC false) (fNm 0) (fNm 1)) [2]) zA)))))
def w5:List D→Rs D:=yx 3 uF
def uG:Rho→Out :=
  (zV (sIf (bOr (zaG (bT (fA (ari 1 yC) (zb (fNm 0) zA)))) (zaG (bT (f1 (zbG isTup) (fNm 1)))))
  (yO (fC (.bl false)))
  sNx)
  (zV (sIf (zaG (bT (fCh leI leI (fC (.int 1)) (fO vd (zb (fNm 1) zA)) (fC (.int 32)))))
  (yO (fC (.bl false)))
  sNx)
  (zV (sIf (zaG (bT (fO zkv (zb (xN (fI tpD (fNm 1)) wj (zbw (fA (ari 2 w5) (zb (fNm 1) (zb (fNm 0) zA))) (f2 (eqD true) (fNm 0) (fC (.str [])))) [0]) zA))))
  (yO (fC (.bl false)))
  sNx)
  (yO (fA (ari 1 uE) (zb (fNm 1) zA))))))
def w6:List D→Rs D:=yx 2 uG
def wu:Rho→Out :=
  (zV (qQ (qK 1 2 (fNm 0) (fSl (fNm 0) (zY (fC (.int 1))) yF)
  (sIf (bT (fM isS wz (fNm 2) (fNm 1)))
  (yO (fO mkT (zb (fNm 1) (zb (fNm 2) zA))))
  sNx)))
  (yO (fC .non)))
def xg:List D→Rs D:=yx 3 wu
def qY:Rho→Out :=
  (zV (vU 2 (fL szL zA))
  (zV (qQ (uz 3 (fI lsD (fNm 1))
  (uz 4 (fI sgD (fSl (fC (.str [97,98,99,100])) yF (zY (fNm 0))))
  (zaE 2 (f2 q9 (fNm 3) (fNm 4))))))
  (zbn 2 (yO (fNm 2)))))
def xJ:List D→Rs D:=yx 5 qY
def kE:Rho→Out :=
  (yO (zdO (fO zlA (zb (xN (fI tpD (fNm 0)) wj (fOr (fM isS wz (fNm 0) (fNm 1)) (fM isS wz (fNm 1) (fNm 0))) [1]) zA))))
def yp:List D→Rs D:=yx 2 kE
def kO:Rho→Out :=
  (yO (fO zlA (zb (xN (fI tpD (fNm 0)) wj (zbw (fM isS wz (fNm 0) (fNm 1)) (f2 (eqD true) (fNm 0) (fNm 1))) [1]) zA)))
def yr:List D→Rs D:=yx 2 kO
def wW:Rho→Out :=
  (zV (yL 2 (fO mkL (zb (fC (.str [])) zA)))
  (zV (qQ (sWh 2000 (bT (f2 (eqD true) (fNm 2) (fO mkL zA)))
  (zV (yL 3 (fA (ari 2 xJ) (zb (fNm 0) (zb (fNm 2) zA))))
  (zV (uz 4 (fI lsD (fNm 3))
  (sIf (bT (fA (ari 2 yp) (zb (fNm 1) (zb (fNm 4) zA))))
  (yO (fNm 4))
  sNx))
  (vJ 2 (fCp (fI lsD (fNm 3)) (bT (fA (ari 2 yr) (zb (fNm 1) (zb (fNm 0) zA)))) (fNm 0) [1]))))))
  (yO (fC .non))))
def yX:List D→Rs D:=yx 5 wW
def wX:Rho→Out :=
  (zV (yL 2 (fA (ari 1 xg) (zb (fNm 1) zA)))
  (zV (sIf (bT (f1 (isN true) (fNm 2)))
  (yO (fNm 2))
  sNx)
  (yO (fA (ari 2 yX) (zb (fNm 0) (zb (fNm 1) zA))))))
def vK:List D→Rs D:=yx 3 wX
def za4:Rho→Out :=
  (yO (zbw (fA (ari 2 w6) (zb (fNm 0) (zb (fNm 1) zA))) (f1 (isN false) (fA (ari 2 vK) (zb (fNm 0) (zb (fNm 1) zA))))))
def wG:List D→Rs D:=yx 2 za4
def uO:Rho→Out :=
  (sIf (zaG (bT (fA (ari 2 wG) (zb (fNm 0) (zb (fNm 1) zA)))))
  (sRs 1 (zb (fC (.str [116,104,105,115,32,105,115,32,110,111,32,98,111,111,107,32,111,102,32,115,111,32,109,97,110,121,32,108,101,116,116,101,114,115])) zA))
  sNx)
def yG:List D→Rs D:=yx 2 uO
def zag:Rho→Out :=
  (zV (yL 1 (fC (.int 0)))
  (zV (yL 2 (fC (.int 1)))
  (zV (qQ (sWh 64 (bT (f2 ltI (fNm 2) (fNm 0)))
  (zV (yL 1 (f2 v5 (fNm 1) (fC (.int 1))))
  (yL 2 (f2 zcB (fNm 2) (fC (.int 2)))))))
  (yO (fNm 1)))))
def ql:List D→Rs D:=yx 3 zag
def zac:Rho→Out :=
  (zV (yL 2 (fC (.str [])))
  (zV (qQ (uz 3 (fR j9 (zb (fNm 1) zA))
  (zV (yL 2 (f2 q9 (fO zkx (zb (f2 zcS (fNm 0) (fC (.int 2))) zA)) (fNm 2)))
  (yL 0 (f2 zav (fNm 0) (fC (.int 2)))))))
  (yO (fNm 2))))
def qC:List D→Rs D:=yx 4 zac
def jY:Rho→Out :=
  (zV (yL 1 (fA (ari 1 ql) (zb (fO vd (zb (fNm 0) zA)) zA)))
  (yO (xN (fR j9 (zb (fO vd (zb (fNm 0) zA)) zA)) wj (fA (ari 2 qC) (zb (fNm 0) (zb (fNm 1) zA))) [1])))
def vB:List D→Rs D:=yx 2 jY
def ul:Rho→Out :=
  (sIf (bT (f2 (inD true) (fNm 1) (fNm 0)))
  (sRs 2 (zb (fC (.str [116,104,105,115,32,105,115,32,110,111,32,112,105,101,99,101,32,111,102,32,116,104,101,32,98,111,111,107])) zA))
  sNx)
def wM:List D→Rs D:=yx 2 ul
def zbh:Rho→Out :=
  (zV (vR (fA (ari 2 yG) (zb (fNm 0) (zb (fNm 1) zA))))
  (zV (vR (fA (ari 2 wM) (zb (fNm 1) (zb (fNm 2) zA))))
  (yO (f2 ixD (fA (ari 1 vB) (zb (fNm 1) zA)) (fM zm4 zgc (fNm 1) (fNm 2))))))
def wF:List D→Rs D:=yx 3 zbh
def qg:Rho→Out :=
  (zV (yL 2 (fA (ari 1 ql) (zb (fO vd (zb (fNm 0) zA)) zA)))
  (zV (sIf (bOr (zaG (bT (f1 (zbG isStr) (fNm 1)))) (bT (f2 (eqD true) (f2 zcS (fO vd (zb (fNm 1) zA)) (fNm 2)) (fC (.int 0)))))
  (sRs 4 (zb (fC (.str [116,104,101,115,101,32,97,114,101,32,110,111,32,119,104,111,108,101,32,119,111,114,100,115])) zA))
  sNx)
  (yO (xN (fR zhm (zb (fC (.int 0)) (zb (fO vd (zb (fNm 1) zA)) (zb (fNm 2) zA)))) wj (fSl (fNm 1) (zY (fNm 0)) (zY (f2 v5 (fNm 0) (fNm 2)))) [1,2]))))
def wK:List D→Rs D:=yx 3 qg
def xY:Rho→Out :=
  (zV (yL 2 (f2 zfp (fA (ari 1 vB) (zb (fNm 0) zA)) (fNm 0)))
  (zV (qQ (uz 3 (fI lsD (fNm 1))
  (sIf (bT (f2 (zk7 true) (fNm 3) (fNm 2)))
  (fun _=>.no)
  sNx)))
  (yO (fM isS za5 (fC (.str [])) (xN (fI lsD (fNm 1)) wj (f2 getD (fNm 1) (fNm 0)) [2])))))
def zL:List D→Rs D:=yx 4 xY
def vy:Rho→Out :=
  (zV (vR (fA (ari 2 yG) (zb (fNm 0) (zb (fNm 1) zA))))
  (zV (yL 4 (fA (ari 2 wK) (zb (fNm 1) (zb (fNm 2) zA))))
  (yO (fA (ari 2 zL) (zb (fNm 1) (zb (fSl (fNm 4) (zY (fO maxD (zb (fNm 3) (zb (fC (.int 0)) zA)))) yF) zA))))))
def yN:List D→Rs D:=yx 5 vy
def zdq:Rho→Out :=
  (yO (fA (ari 4 yN) (zb (fNm 0) (zb (fNm 1) (zb (fNm 2) (zb (fC (.int 0)) zA))))))
def xR:List D→Rs D:=yx 3 zdq
end Pg
set_option maxHeartbeats 1000000
namespace L2
open PySem
section
variable {ft:Rho→Rs Bool}{fe:Rho→Rs D}{ρ0 ρ:Rho}{α β:Type}{i j:Nat}{g:Rho→Out}
theorem zaL {l:List α}{enc:α→D}(p:α→Bool)(e:α→D)(h:∀x∈l,ft (ρ0.set 0 (.fz (enc x)))=.ok (p x)∧(p x=true→fe (ρ0.set 0 (.fz (enc x)))=.ok (e x))):vq ft fe ρ0 (l.map enc)=.ok ((l.filter p).map e):=by
 induction l with
 | nil=>rfl
 | cons x l ih =>
  have ih':=ih fun y hy=>h y (.tail _ hy)
  obtain⟨h1,h2⟩:=h x (.head _)
  rw[List.map_cons]
  unfold vq
  rw[h1]
  cases hp:p x with
  | false=>rw[List.filter_cons_of_neg (by simp[hp])];exact ih'
  | true =>
   rw[List.filter_cons_of_pos hp]
   simp only[h2 hp,ih']
   rfl
theorem yR {l:List α}{enc:α→D}(e:α→D)(h:∀x∈l,fe (ρ0.set 0 (.fz (enc x)))=.ok (e x)):vq wj fe ρ0 (l.map enc)=.ok (l.map e):=by
 have:=zaL (ft:=wj) (fe:=fe) (ρ0:=ρ0) (l:=l) (enc:=enc) (fun _=>true) e fun x hx=>⟨rfl,fun _=>h x hx⟩
 rwa [List.filter_eq_self.mpr fun _ _=>rfl] at this
theorem zgS {l:List (α×β)}{enc:α→D}{enb:β→D}(e:α×β→D)(h:∀x∈l,fe ((ρ0.set 0 (.fz (enc x.1))).set 1 (.fz (enb x.2)))=.ok (e x)):wJ wj fe ρ0 (l.map fun x=>enc x.1) (l.map fun x=>enb x.2)=.ok (l.map e):=by
 induction l with
 | nil=>rfl
 | cons x l ih =>
  have ih':=ih fun y hy=>h y (.tail _ hy)
  rw[List.map_cons,List.map_cons]
  unfold wJ
  simp only[wj,h x (.head _)]
  rw[ih'];rfl
theorem zcP:∀(as bs:List D),wJ ft fe ρ0 as bs=wJ ft fe ρ0 ((as.zip bs).map (·.1)) ((as.zip bs).map (·.2))
 | [],_=>by simp[wJ]
 | _::_,[]=>by simp[wJ]
 | a::as,b::bs=>by
  rw[List.zip_cons_cons,List.map_cons,List.map_cons]
  unfold wJ
  rw[zcP as bs]
theorem zep:∀(as bs:List D) (ρ:Rho),forZ i j g as bs ρ=forZ i j g ((as.zip bs).map (·.1)) ((as.zip bs).map (·.2)) ρ
 | [],_,ρ=>by simp[forZ]
 | _::_,[],ρ=>by simp[forZ]
 | a::as,b::bs,ρ=>by
  rw[List.zip_cons_cons,List.map_cons,List.map_cons,forZ.eq_1,forZ.eq_1]
  dsimp only
  cases g ((ρ.set i (.fz a)).set j (.fz b)) <;>first|rfl|exact zep as bs _
theorem xq {l:List α}{enc:α→D}(I:Nat→Rho→Prop)(h0:I 0 ρ)(hs:∀k x ρ,l[k]? = some x→I k ρ→∃ρ',g (ρ.set i (.fz (enc x)))=.nx ρ'∧I (k+1) ρ'):∃ρ',forD i g (l.map enc) ρ=.nx ρ'∧I l.length ρ':=by
 induction l generalizing ρ I with
 | nil=>exact⟨ρ,rfl,h0⟩
 | cons x l ih =>
  obtain⟨ρ1,e1,i1⟩:=hs 0 x ρ rfl h0
  obtain⟨ρ2,e2,i2⟩:=ih (I:=fun k=>I (k+1)) i1 fun k y ρ hy hI=>hs (k+1) y ρ (by simpa using hy) hI
  refine⟨ρ2,?_,i2⟩
  rw[List.map_cons]
  unfold forD
  rw[e1];exact e2
theorem zgJ {l:List α}{enc:α→D}(I:Rho→Prop)(p:α→Bool)(r:α→D)(h0:I ρ)(hs:∀x∈l,∀ρ,I ρ→if p x=true then g (ρ.set i (.fz (enc x)))=.rt (r x) else ∃ρ',g (ρ.set i (.fz (enc x)))=.nx ρ'∧I ρ') :
  match l.find? p with|some x=>forD i g (l.map enc) ρ=.rt (r x)|none=>∃ρ',forD i g (l.map enc) ρ=.nx ρ'∧I ρ':=by
 induction l generalizing ρ with
 | nil=>exact⟨ρ,rfl,h0⟩
 | cons x l ih =>
  have hx:=hs x (.head _) ρ h0
  cases hp:p x with
  | true =>
   rw[if_pos hp] at hx
   rw[List.find?_cons_of_pos hp]
   show forD i g (enc x::l.map enc) ρ=_
   unfold forD
   rw[hx]
  | false =>
   rw[if_neg (by simp[hp])] at hx
   obtain⟨ρ1,e1,i1⟩:=hx
   rw[List.find?_cons_of_neg (by simp[hp])]
   have:=ih i1 fun y hy=>hs y (.tail _ hy)
   have e:forD i g ((x::l).map enc) ρ=forD i g (l.map enc) ρ1:=by
    show forD i g (enc x::l.map enc) ρ=_
    rw[forD.eq_2,e1]
   rw[e];exact this
theorem zf0 {l:List (α×β)}{enc:α→D}{enb:β→D}(I:Rho→Prop)(p:α×β→Bool)(r:α×β→D)(h0:I ρ)(hs:∀x∈l,∀ρ,I ρ→if p x=true then g ((ρ.set i (.fz (enc x.1))).set j (.fz (enb x.2)))=.rt (r x) else ∃ρ',g ((ρ.set i (.fz (enc x.1))).set j (.fz (enb x.2)))=.nx ρ'∧I ρ') :
  match l.find? p with|some x=>forZ i j g (l.map fun x=>enc x.1) (l.map fun x=>enb x.2) ρ=.rt (r x)|none=>∃ρ',forZ i j g (l.map fun x=>enc x.1) (l.map fun x=>enb x.2) ρ=.nx ρ'∧I ρ':=by
 induction l generalizing ρ with
 | nil=>exact⟨ρ,by simp[forZ],h0⟩
 | cons x l ih =>
  have hx:=hs x (.head _) ρ h0
  cases hp:p x with
  | true =>
   rw[if_pos hp] at hx
   rw[List.find?_cons_of_pos hp]
   show forZ i j g (enc x.1::l.map fun x=>enc x.1) (enb x.2::l.map fun x=>enb x.2) ρ=_
   unfold forZ
   rw[hx]
  | false =>
   rw[if_neg (by simp[hp])] at hx
   obtain⟨ρ1,e1,i1⟩:=hx
   rw[List.find?_cons_of_neg (by simp[hp])]
   have:=ih i1 fun y hy=>hs y (.tail _ hy)
   have e:forZ i j g ((x::l).map fun x=>enc x.1) ((x::l).map fun x=>enb x.2) ρ=forZ i j g (l.map fun x=>enc x.1) (l.map fun x=>enb x.2) ρ1:=by
    show forZ i j g (enc x.1::l.map fun x=>enc x.1) (enb x.2::l.map fun x=>enb x.2) ρ=_
    rw[forZ.eq_1,e1]
   rw[e];exact this
end
theorem yq {m:Nat}{g:Rho→Out}{ds:List D}{d:D}(h:g (ds.map .fz++List.replicate (m - ds.length) .no)=.rt d):yx m g ds=.ok d:=by unfold yx;rw[h]
theorem zeb {m:Nat}{g:Rho→Out}{ds:List D}{ρ:Rho}(h:g (ds.map .fz++List.replicate (m - ds.length) .no)=.nx ρ):yx m g ds=.ok .non:=by unfold yx;rw[h]
theorem wC {m:Nat}{g:Rho→Out}{ds:List D}{n:Nat}(h:g (ds.map .fz++List.replicate (m - ds.length) .no)=.ex n):yx m g ds=.ex n:=by unfold yx;rw[h]
theorem zx {g h:Rho→Out}{ρ ρ':Rho}(e:g ρ=.nx ρ'):zV g h ρ=h ρ':=by unfold zV;rw[e]
theorem zcu {g h:Rho→Out}{ρ:Rho}{d:D}(e:g ρ=.rt d):zV g h ρ=.rt d:=by unfold zV;rw[e]
theorem vX {g:Rho→Out}{ρ ρ':Rho}(e:g ρ=.nx ρ'):qQ g ρ=.nx ρ':=by unfold qQ;rw[e]
theorem zi3 {g:Rho→Out}{ρ:Rho}{d:D}(e:g ρ=.rt d):qQ g ρ=.rt d:=by unfold qQ;rw[e]
theorem xQ {i:Nat}{fi:Rho→Rs (List D)}{g:Rho→Out}{ρ:Rho}{ds:List D}(e:fi ρ=.ok ds):uz i fi g ρ=forD i g ds ρ:=by unfold uz;rw[e]
theorem zbx {ft:Rho→Rs Bool}{g h:Rho→Out}{ρ:Rho}(e:ft ρ=.ok true):sIf ft g h ρ=g ρ:=by unfold sIf;rw[e]
theorem ze2 {ft:Rho→Rs Bool}{g h:Rho→Out}{ρ:Rho}(e:ft ρ=.ok false):sIf ft g h ρ=h ρ:=by unfold sIf;rw[e]
theorem zH {i:Nat}{f:Rho→Rs D}{ρ:Rho}{d:D}(e:f ρ=.ok d):yL i f ρ=.nx (ρ.set i (.fz d)):=by unfold yL;rw[e]
theorem xj {f:Rho→Rs D}{ρ:Rho}{d:D}(e:f ρ=.ok d):yO f ρ=.rt d:=by unfold yO;rw[e]
theorem zdH {i:Nat}{f:Rho→Rs D}{ρ:Rho}{ds:List D}{d:D}(e:owL ρ i=some ds)(e2:f ρ=.ok d)(hl:ds.length<1000000):zaE i f ρ=.nx (ρ.set i (.ow (ds++[d]))):=by unfold zaE;simp only[e,e2,if_pos hl]
theorem qt {l m:List Nat}(h:l.length+m.length≤1000000):q9 (.str l) (.str m)=some (.str (l++m)):=if_pos h
theorem yc {g:D→D→Option D}{fa fb:Rho→Rs D}{ρ:Rho}{a b d:D}(e1:fa ρ=.ok a)(e2:fb ρ=.ok b)(e3:g a b=some d):f2 g fa fb ρ=.ok d:=by unfold f2;rw[e1];show(fb ρ).bind _=_;rw[e2];show lf (g a b)=_;rw[e3];rfl
theorem xU {n:Nat}(h:n≤1000000):j9 [.int (n:Int)]=some ((List.range n).map fun(k:Nat)=>.int (k:Int)):=by
 have h1:-(2 ^ 62)≤(n:Int)∧(n:Int)<2 ^ 62:=by omega
 dsimp only [j9]
 rw[if_pos h1,Int.toNat_natCast]
theorem jc {g:List D→Option (List D)}{fs:Rho→Rs (List D)}{ρ:Rho}{ds es:List D}(e1:fs ρ=.ok ds)(e2:g ds=some es):fR g fs ρ=.ok es:=by unfold fR;rw[e1];show(match g ds with|some es=>Rs.ok es|none=>.no)=_;rw[e2]
theorem zao {g:List D→Option D}{fs:Rho→Rs (List D)}{ρ:Rho}{ds:List D}{d:D}(e1:fs ρ=.ok ds)(e2:g ds=some d):fO g fs ρ=.ok d:=by unfold fO;rw[e1];show lf (g ds)=_;rw[e2];rfl
theorem vp {f g:Rho→Rs D}{ρ:Rho}{i j:Int}(e1:f ρ=.ok (.int i))(e2:g ρ=.ok (.int j)):f2 v5 f g ρ=.ok (.int (i+j)):=yc e1 e2 rfl
theorem zjX {f g:Rho→Rs D}{ρ:Rho}{i j:Int}(e1:f ρ=.ok (.int i))(e2:g ρ=.ok (.int j)):f2 zdE f g ρ=.ok (.int (i - j)):=yc e1 e2 rfl
theorem uU {f g:Rho→Rs D}{ρ:Rho}{i j:Int}(e1:f ρ=.ok (.int i))(e2:g ρ=.ok (.int j))(h1:Sm i)(h2:Sm j):f2 zcB f g ρ=.ok (.int (i*j)):=yc e1 e2 (if_pos ⟨h1,h2⟩)
theorem uR {f g:Rho→Rs D}{ρ:Rho}{i j:Int}(e1:f ρ=.ok (.int i))(e2:g ρ=.ok (.int j))(h:0<j):f2 zcS f g ρ=.ok (.int (i % j)):=yc e1 e2 (if_pos h)
theorem kJ {f g:Rho→Rs D}{ρ:Rho}{i j:Int}(e1:f ρ=.ok (.int i))(e2:g ρ=.ok (.int j))(h:0<j)(h2:Sm j):f2 zav f g ρ=.ok (.int (i / j)):=yc e1 e2 (if_pos ⟨h,h2⟩)
theorem vQ {i:Int}(h:-(2 ^ 100)<i∧i<2 ^ 100):Sm i:=by
 unfold Sm
 have h1:(2:Nat) ^ 100≤2 ^ 4000:=Nat.pow_le_pow_right (by decide) (by decide)
 have h2:i.natAbs<2 ^ 100:=by omega
 exact Nat.lt_of_lt_of_le h2 h1
theorem zeU {fi:Rho→Rs (List D)}{ft:Rho→Rs Bool}{fe:Rho→Rs D}{caps:List Nat}{ρ:Rho}{ds es:List D}(e1:fi ρ=.ok ds)(hl:ds.length≤1000000)(e2:vq ft fe (vY 1 caps ρ) ds=.ok es):fCp fi ft fe caps ρ=.ok es:=by unfold fCp;rw[e1];show(if ds.length≤1000000 then vq ft fe (vY 1 caps ρ) ds else .no)=_;rw[if_pos hl,e2]
theorem vL {fi:Rho→Rs (List D)}{ft:Rho→Rs Bool}{fe:Rho→Rs D}{caps:List Nat}{ρ:Rho}{ds es:List D}(e1:fi ρ=.ok ds)(hl:ds.length≤1000000)(e2:vq ft fe (vY 1 caps ρ) ds=.ok es):xN fi ft fe caps ρ=.ok (.lst es):=by unfold xN;rw[zeU e1 hl e2];rfl
theorem zaD {i:Nat}{f:Rho→Rs (List D)}{ρ:Rho}{d:List D}(e:f ρ=.ok d):vU i f ρ=.nx (ρ.set i (.ow d)):=by unfold vU;rw[e]
theorem zcp {i:Nat}{f:Rho→Rs (List D)}{ρ:Rho}{d:List D}(e:f ρ=.ok d):vJ i f ρ=.nx (ρ.set i (.fz (.lst d))):=by unfold vJ;rw[e]
theorem zc2 {f:Rho→Rs (List D)}{ρ:Rho}{d:List D}(e:f ρ=.ok d):fLs f ρ=.ok (.lst d):=by unfold fLs;rw[e];rfl
theorem zho {chk:D→Bool}{g:D→D→Option D}{fa fb:Rho→Rs D}{ρ:Rho}{a b d:D}(e1:fa ρ=.ok a)(hc:chk a=true)(e2:fb ρ=.ok b)(e3:g a b=some d):fM chk g fa fb ρ=.ok d:=by unfold fM;rw[e1];show(if chk a=true then _ else _)=_;rw[if_pos hc,e2];show lf (g a b)=_;rw[e3];rfl
theorem zjI {i j:Nat}{f:Rho→Rs D}{ρ:Rho}{ds:List D}{k:Nat}{d:D}(e:owL ρ i=some ds)(e1:f ρ=.ok (.int (k:Int)))(hk:k<1000000)(e2:ds[k]? = some d):zcC i j f ρ=.nx ((ρ.set i (.ow (ds.eraseIdx k))).set j (.fz d)):=by
 unfold zcC
 have h:(0:Int)≤(k:Int)∧(k:Int)<1000000:=by omega
 simp only[e,e1,if_pos h,Int.toNat_natCast,e2]
theorem zlz {i:Nat}{f:Rho→Rs D}{ρ:Rho}{ds:List D}{d:D}(e:owL ρ i=some ds)(e1:f (ρ.set i (.fz (.lst ds)))=.ok d)(h:d.fl=true):fFl i f ρ=.ok d:=by unfold fFl;simp only[e,e1,if_pos h]
theorem zed {i:Nat}{g:Rho→Out}{ρ:Rho}{ds:List D}(e:ρ[i]? = some (.ow ds)):zbn i g ρ=g (ρ.set i (.fz (.lst ds))):=by unfold zbn;rw[e]
theorem zmO {g:List D→Option (List D)}{fs:Rho→Rs (List D)}{ρ:Rho}{ds es:List D}(e1:fs ρ=.ok ds)(e2:g ds=some es):fL g fs ρ=.ok es:=by unfold fL;rw[e1];show lf' (g ds)=_;rw[e2];rfl
theorem zJ {fa:Rho→Rs D}{fs:Rho→Rs (List D)}{ρ:Rho}{a:D}{as:List D}(e1:fa ρ=.ok a)(e2:fs ρ=.ok as):zb fa fs ρ=.ok (a::as):=by unfold zb;rw[e1];show(fs ρ).bind _=_;rw[e2];rfl
theorem zdr {α β:Type}(f:α→β):∀(l:List α) (k:Nat),(l.map f).eraseIdx k=(l.eraseIdx k).map f
 | [],_=>rfl
 | _::_,0=>rfl
 | a::l,k+1=>by show f a::(l.map f).eraseIdx k=_;rw[zdr f l k];rfl
theorem zmC (x:List Nat)(ps:List (List Nat)):inV (.str (T x)) (vT ps)=decide (x∈ps):=by
 unfold inV vT
 rw[List.any_map,Bool.eq_iff_iff,List.any_eq_true,decide_eq_true_eq]
 constructor
 ·rintro⟨l,hl,e⟩
  have e':(T l == T x)=true:=e
  rw[zjs] at e'
  rw[← (beq_iff_eq.mp e')]
  exact hl
 ·intro hx
  refine⟨x,hx,?_⟩
  show(T x == T x)=true
  simp
def sT (ls:List (List Nat)):List D:=ls.map .str
theorem ziy (a b:List (List Nat)):sT a++sT b=sT (a++b):=by unfold sT;rw[List.map_append]
theorem ziH (ls:List (List Nat)):(sT ls).all D.fl=true:=by simp[sT,D.fl]
theorem j5 (ls:List (List Nat)):(sT ls).all isS=true:=by simp[sT,isS]
theorem j8 (ls:List (List Nat)):(sT ls).map unS=ls:=by
 unfold sT;rw[List.map_map]
 exact(List.map_congr_left fun x _=>rfl).trans (List.map_id ls)
theorem uy:∀ls:List (List Nat),D.pls (sT ls)=true
 | []=>rfl
 | l::ls=>by show((D.str l).pl&&D.pls (sT ls))=true;rw[uy ls];rfl
theorem xG (ls:List (List Nat)):(sT ls).length=ls.length:=by simp[sT]
theorem zlC (x:List Nat)(ls:List (List Nat)):inV (D.str x).toV ((sT ls).map D.toV)=decide (x∈ls):=by
 have e:(sT ls).map D.toV=vT ls:=by unfold sT vT;rw[List.map_map];rfl
 rw[e];exact zmC x ls
theorem zfB (neg:Bool)(x:List Nat)(ls:List (List Nat)):inQ neg (.str x) (sT ls)=some (.bl (if neg then !decide (x∈ls) else decide (x∈ls))):=by
 unfold inQ
 rw[if_pos ⟨rfl,ziH ls⟩,zlC]
end L2
namespace Pg
open PySem L2 My
theorem zcs {α:Type}(l:List α)(m:Nat):zap l none (some (m:Int))=l.take m:=by
 unfold zap
 rw[HT.sIx_none,HT.sIx_nat,List.drop_zero,Nat.sub_zero,← List.take_take,List.take_length]
theorem zci {α:Type}(l:List α)(m:Nat):zap l (some (m:Int)) none=l.drop m:=by
 unfold zap
 rw[HT.sIx_none,HT.sIx_nat,List.take_of_length_le (by rw[List.length_drop];exact Nat.le_refl _)]
 rcases Nat.le_total m l.length with h|h
 ·rw[Nat.min_eq_left h]
 ·rw[Nat.min_eq_right h,List.drop_of_length_le (Nat.le_refl _),List.drop_of_length_le h]
theorem zdS (l m:List Nat):PyData.eqv (.str (T l)) (.str (T m))=decide (l=m):=by
 show(T l == T m)=_
 rw[zjs]
 by_cases h:l=m
 ·subst h;simp
 ·rw[decide_eq_false h];simpa using h
theorem jq (neg:Bool)(l m:List Nat):eqD neg (.str l) (.str m)=some (.bl (if neg then !decide (l=m) else decide (l=m))):=by
 unfold eqD
 rw[if_pos ⟨rfl,rfl,by show(PyData.str (T l)).depth≤60;simp[PyData.depth]⟩]
 show some (D.bl (if neg=true then !PyData.eqv (.str (T l)) (.str (T m)) else PyData.eqv (.str (T l)) (.str (T m))))=_
 rw[zdS]
theorem zgA {α:Type}(l:List α)(b:α→Bool):zkv [.lst (l.map fun x=>D.bl (b x))]=some (.bl (l.all b)):=by
 show(if (l.map fun x=>D.bl (b x)).all isB=true then some (D.bl ((l.map fun x=>D.bl (b x)).all unB)) else none)=_
 have h:(l.map fun x=>D.bl (b x)).all isB=true:=by rw[List.all_map];exact List.all_eq_true.mpr fun _ _=>rfl
 rw[if_pos h,List.all_map];rfl
theorem ziX {α:Type}(l:List α)(b:α→Bool):zlA [.lst (l.map fun x=>D.bl (b x))]=some (.bl (l.any b)):=by
 show(if (l.map fun x=>D.bl (b x)).all isB=true then some (D.bl ((l.map fun x=>D.bl (b x)).any unB)) else none)=_
 have h:(l.map fun x=>D.bl (b x)).all isB=true:=by rw[List.all_map];exact List.all_eq_true.mpr fun _ _=>rfl
 rw[if_pos h,List.any_map];rfl
theorem zeu (ps:List (List Nat)):zap (sT ps) (some 1) none=sT ps.tail:=by
 have:=zci (sT ps) 1
 rw[show((1:Nat):Int)=1 from rfl] at this
 rw[this,List.drop_one];exact(List.map_tail).symm
theorem ziA (ps qs:List (List Nat)):(sT ps).zip (sT qs)=(ps.zip qs).map fun x=>(D.str x.1,D.str x.2):=by
 unfold sT;rw[List.zip_map];rfl
def isText (m:Nat)(l:List Nat):Bool:=l.all fun c=>decide (c∈abcd.take m)
theorem zf3 {m:Nat}(m4:m≤4){l:List Nat}(h:LetOk m l):isText m l=true:=by
 unfold isText
 rw[List.all_eq_true]
 exact fun c hc=>decide_eq_true (uJ m4 (h c hc))
theorem zbq (m:Nat)(l:List Nat)(hl:l.length≤1000000):w5 [.int m,.str l]=.ok (.bl (isText m l)):=by
 have e:vq wj (f2 (inC false) (fNm 0) (fNm 1)) [.no,.fz (.str (abcd.take m))] (l.map fun c=>.str [c])=.ok (l.map fun c=>.bl (decide (c∈abcd.take m))):=yR _ fun c hc=>rfl
 have e2:zap [97,98,99,100] none (some (m:Int))=abcd.take m:=zcs abcd m
 simp only[w5,uF,yx,zV,yO,vR,yL,sIf,zau,zbn,qQ,sRs,uz,qK,sWh,zaE,zcC,vJ,vU,zay,zfy,fSD,owL,odL,sNx,fC,fNm,f1,f2,zA,zb,fO,fA,fIf,tru,bT,zaG,zfx,bOr,zbw,fOr,zdO,lf,lf',Rs.bind,isN,mkT,mkL,ari,fI,lsD,tpD,sgD,fR,fCp,xN,fLs,fL,fL1,fL2,szL,fCz,vY,yF,zY,fSl,slD,fM,fCh,zbG,isInt,isBool,isStr,isTup,vd,ltI,leI,gtI,geI,ltS,v5,zdE,D.pl,D.py,isS,List.getElem?_cons_zero,List.getElem?_cons_succ,List.set_cons_zero,List.set_cons_succ,List.map_cons,List.map_nil,List.length_cons,List.length_nil,List.replicate,List.append_nil,List.nil_append,List.cons_append,Nat.reduceSub,Nat.reduceAdd,Nat.reduceLeDiff,Bool.not_true,Bool.not_false,if_true,if_false,Bool.false_eq_true,reduceIte,Nat.zero_add,List.getElem?_nil,uy,e2,e,List.length_map,if_pos hl,zgA,isText]
theorem zcW (ps:List (List Nat))(h:ps.length≤1000000):uE [.tup (sT ps)]=.ok (.bl (rising ps)):=by
 have e2:wJ wj (f2 ltS (fNm 0) (fNm 1)) [.no,.no] (sT ps) (sT ps.tail)=.ok ((ps.zip ps.tail).map fun x=>.bl (decide (x.1<x.2))):=by
  rw[zcP]
  rw[ziA,List.map_map,List.map_map]
  exact zgS (enc:=D.str) (enb:=D.str) _ fun x hx=>rfl
 simp only[uE,qz,yx,zV,yO,vR,yL,sIf,zau,zbn,qQ,sRs,uz,qK,sWh,zaE,zcC,vJ,vU,zay,zfy,fSD,owL,odL,sNx,fC,fNm,f1,f2,zA,zb,fO,fA,fIf,tru,bT,zaG,zfx,bOr,zbw,fOr,zdO,lf,lf',Rs.bind,isN,mkT,mkL,ari,fI,lsD,tpD,sgD,fR,fCp,xN,fLs,fL,fL1,fL2,szL,fCz,vY,yF,zY,fSl,slD,fM,fCh,zbG,isInt,isBool,isStr,isTup,vd,ltI,leI,gtI,geI,ltS,v5,zdE,D.pl,D.py,isS,List.getElem?_cons_zero,List.getElem?_cons_succ,List.set_cons_zero,List.set_cons_succ,List.map_cons,List.map_nil,List.length_cons,List.length_nil,List.replicate,List.append_nil,List.nil_append,List.cons_append,Nat.reduceSub,Nat.reduceAdd,Nat.reduceLeDiff,Bool.not_true,Bool.not_false,if_true,if_false,Bool.false_eq_true,reduceIte,Nat.zero_add,List.getElem?_nil,uy,zeu,e2,xG,if_pos h,zgA,rising]
theorem zcL (i:Int):jt [.int i]=.ok (.bl true):=rfl
theorem vM (i lo hi:Int):xr [.int i,.int lo,.int hi]=.ok (.bl (decide (lo≤i)&&decide (i≤hi))):=by
 simp only[xr,uK,yx,zV,yO,vR,yL,sIf,zau,zbn,qQ,sRs,uz,qK,sWh,zaE,zcC,vJ,vU,zay,zfy,fSD,owL,odL,sNx,fC,fNm,f1,f2,zA,zb,fO,fA,fIf,tru,bT,zaG,zfx,bOr,zbw,fOr,zdO,lf,lf',Rs.bind,isN,mkT,mkL,ari,fI,lsD,tpD,sgD,fR,fCp,xN,fLs,fL,fL1,fL2,szL,fCz,vY,yF,zY,fSl,slD,fM,fCh,zbG,isInt,isBool,isStr,isTup,vd,ltI,leI,gtI,geI,ltS,v5,zdE,D.pl,D.py,isS,List.getElem?_cons_zero,List.getElem?_cons_succ,List.set_cons_zero,List.set_cons_succ,List.map_cons,List.map_nil,List.length_cons,List.length_nil,List.replicate,List.append_nil,List.nil_append,List.cons_append,Nat.reduceSub,Nat.reduceAdd,Nat.reduceLeDiff,Bool.not_true,Bool.not_false,if_true,if_false,Bool.false_eq_true,reduceIte,Nat.zero_add,List.getElem?_nil,uy,zcL]
 by_cases h:lo≤i
 ·simp[h]
 ·simp[h]
theorem zdd (i:Int):yC [.int i]=.ok (.bl (decide (2≤i)&&decide (i≤4))):=by
 simp only[yC,yK,yx,zV,yO,vR,yL,sIf,zau,zbn,qQ,sRs,uz,qK,sWh,zaE,zcC,vJ,vU,zay,zfy,fSD,owL,odL,sNx,fC,fNm,f1,f2,zA,zb,fO,fA,fIf,tru,bT,zaG,zfx,bOr,zbw,fOr,zdO,lf,lf',Rs.bind,isN,mkT,mkL,ari,fI,lsD,tpD,sgD,fR,fCp,xN,fLs,fL,fL1,fL2,szL,fCz,vY,yF,zY,fSl,slD,fM,fCh,zbG,isInt,isBool,isStr,isTup,vd,ltI,leI,gtI,geI,ltS,v5,zdE,D.pl,D.py,isS,List.getElem?_cons_zero,List.getElem?_cons_succ,List.set_cons_zero,List.set_cons_succ,List.map_cons,List.map_nil,List.length_cons,List.length_nil,List.replicate,List.append_nil,List.nil_append,List.cons_append,Nat.reduceSub,Nat.reduceAdd,Nat.reduceLeDiff,Bool.not_true,Bool.not_false,if_true,if_false,Bool.false_eq_true,reduceIte,Nat.zero_add,List.getElem?_nil,uy,vM]
 rfl
theorem zdQ (ps:List (List Nat))(x:List Nat)(h:ps.length≤1000000):yr [.tup (sT ps),.str x]=.ok (.bl (isInner ps x)):=by
 have e:vq wj (zbw (fM isS wz (fNm 0) (fNm 1)) (f2 (eqD true) (fNm 0) (fNm 1))) [.no,.fz (.str x)] (sT ps)=.ok (ps.map fun p=>.bl (x.isPrefixOf p && !decide (p=x))):=yR _ fun p hp=>by
  simp only[yx,zV,yO,vR,yL,sIf,zau,zbn,qQ,sRs,uz,qK,sWh,zaE,zcC,vJ,vU,zay,zfy,fSD,owL,odL,sNx,fC,fNm,f1,f2,zA,zb,fO,fA,fIf,tru,bT,zaG,zfx,bOr,zbw,fOr,zdO,lf,lf',Rs.bind,isN,mkT,mkL,ari,fI,lsD,tpD,sgD,fR,fCp,xN,fLs,fL,fL1,fL2,szL,fCz,vY,yF,zY,fSl,slD,fM,fCh,zbG,isInt,isBool,isStr,isTup,vd,ltI,leI,gtI,geI,ltS,v5,zdE,D.pl,D.py,isS,List.getElem?_cons_zero,List.getElem?_cons_succ,List.set_cons_zero,List.set_cons_succ,List.map_cons,List.map_nil,List.length_cons,List.length_nil,List.replicate,List.append_nil,List.nil_append,List.cons_append,Nat.reduceSub,Nat.reduceAdd,Nat.reduceLeDiff,Bool.not_true,Bool.not_false,if_true,if_false,Bool.false_eq_true,reduceIte,Nat.zero_add,List.getElem?_nil,uy,wz,jq]
  cases x.isPrefixOf p <;>simp
 simp only[yr,kO,yx,zV,yO,vR,yL,sIf,zau,zbn,qQ,sRs,uz,qK,sWh,zaE,zcC,vJ,vU,zay,zfy,fSD,owL,odL,sNx,fC,fNm,f1,f2,zA,zb,fO,fA,fIf,tru,bT,zaG,zfx,bOr,zbw,fOr,zdO,lf,lf',Rs.bind,isN,mkT,mkL,ari,fI,lsD,tpD,sgD,fR,fCp,xN,fLs,fL,fL1,fL2,szL,fCz,vY,yF,zY,fSl,slD,fM,fCh,zbG,isInt,isBool,isStr,isTup,vd,ltI,leI,gtI,geI,ltS,v5,zdE,D.pl,D.py,isS,List.getElem?_cons_zero,List.getElem?_cons_succ,List.set_cons_zero,List.set_cons_succ,List.map_cons,List.map_nil,List.length_cons,List.length_nil,List.replicate,List.append_nil,List.nil_append,List.cons_append,Nat.reduceSub,Nat.reduceAdd,Nat.reduceLeDiff,Bool.not_true,Bool.not_false,if_true,if_false,Bool.false_eq_true,reduceIte,Nat.zero_add,List.getElem?_nil,uy,e,xG,if_pos h,ziX]
 rfl
theorem zeh (ps:List (List Nat))(x:List Nat)(h:ps.length≤1000000):yp [.tup (sT ps),.str x]=.ok (.bl (xO ps x)):=by
 have e:vq wj (fOr (fM isS wz (fNm 0) (fNm 1)) (fM isS wz (fNm 1) (fNm 0))) [.no,.fz (.str x)] (sT ps)=.ok (ps.map fun p=>.bl (x.isPrefixOf p || p.isPrefixOf x)):=yR _ fun p hp=>by
  simp only[yx,zV,yO,vR,yL,sIf,zau,zbn,qQ,sRs,uz,qK,sWh,zaE,zcC,vJ,vU,zay,zfy,fSD,owL,odL,sNx,fC,fNm,f1,f2,zA,zb,fO,fA,fIf,tru,bT,zaG,zfx,bOr,zbw,fOr,zdO,lf,lf',Rs.bind,isN,mkT,mkL,ari,fI,lsD,tpD,sgD,fR,fCp,xN,fLs,fL,fL1,fL2,szL,fCz,vY,yF,zY,fSl,slD,fM,fCh,zbG,isInt,isBool,isStr,isTup,vd,ltI,leI,gtI,geI,ltS,v5,zdE,D.pl,D.py,isS,List.getElem?_cons_zero,List.getElem?_cons_succ,List.set_cons_zero,List.set_cons_succ,List.map_cons,List.map_nil,List.length_cons,List.length_nil,List.replicate,List.append_nil,List.nil_append,List.cons_append,Nat.reduceSub,Nat.reduceAdd,Nat.reduceLeDiff,Bool.not_true,Bool.not_false,if_true,if_false,Bool.false_eq_true,reduceIte,Nat.zero_add,List.getElem?_nil,uy,wz]
  cases x.isPrefixOf p <;>simp
 simp only[yp,kE,yx,zV,yO,vR,yL,sIf,zau,zbn,qQ,sRs,uz,qK,sWh,zaE,zcC,vJ,vU,zay,zfy,fSD,owL,odL,sNx,fC,fNm,f1,f2,zA,zb,fO,fA,fIf,tru,bT,zaG,zfx,bOr,zbw,fOr,zdO,lf,lf',Rs.bind,isN,mkT,mkL,ari,fI,lsD,tpD,sgD,fR,fCp,xN,fLs,fL,fL1,fL2,szL,fCz,vY,yF,zY,fSl,slD,fM,fCh,zbG,isInt,isBool,isStr,isTup,vd,ltI,leI,gtI,geI,ltS,v5,zdE,D.pl,D.py,isS,List.getElem?_cons_zero,List.getElem?_cons_succ,List.set_cons_zero,List.set_cons_succ,List.map_cons,List.map_nil,List.length_cons,List.length_nil,List.replicate,List.append_nil,List.nil_append,List.cons_append,Nat.reduceSub,Nat.reduceAdd,Nat.reduceLeDiff,Bool.not_true,Bool.not_false,if_true,if_false,Bool.false_eq_true,reduceIte,Nat.zero_add,List.getElem?_nil,uy,e,xG,if_pos h,ziX]
 rfl
theorem jH (ps:List (List Nat)):xg [.tup (sT ps)]=.ok (match wY ps with|some x=>.tup [.str x.1,.str x.2] | none=>.non):=by
 have key:=zf0 (i:=1) (j:=2) (g:=sIf (bT (fM isS wz (fNm 2) (fNm 1))) (yO (fO mkT (zb (fNm 1) (zb (fNm 2) zA)))) sNx) (ρ:=[.fz (.tup (sT ps)),.no,.no]) (l:=ps.zip ps.tail) (enc:=D.str) (enb:=D.str)
  (fun ρ=>∃a b,ρ=[.fz (.tup (sT ps)),a,b]) (fun x=>x.1.isPrefixOf x.2) (fun x=>.tup [.str x.1,.str x.2]) ⟨_,_,rfl⟩ (fun x hx ρ ⟨a,b,e⟩=>by
   subst e
   cases hp:x.1.isPrefixOf x.2 with
   | true=>simp only[yx,zV,yO,vR,yL,sIf,zau,zbn,qQ,sRs,uz,qK,sWh,zaE,zcC,vJ,vU,zay,zfy,fSD,owL,odL,sNx,fC,fNm,f1,f2,zA,zb,fO,fA,fIf,tru,bT,zaG,zfx,bOr,zbw,fOr,zdO,lf,lf',Rs.bind,isN,mkT,mkL,ari,fI,lsD,tpD,sgD,fR,fCp,xN,fLs,fL,fL1,fL2,szL,fCz,vY,yF,zY,fSl,slD,fM,fCh,zbG,isInt,isBool,isStr,isTup,vd,ltI,leI,gtI,geI,ltS,v5,zdE,D.pl,D.py,isS,List.getElem?_cons_zero,List.getElem?_cons_succ,List.set_cons_zero,List.set_cons_succ,List.map_cons,List.map_nil,List.length_cons,List.length_nil,List.replicate,List.append_nil,List.nil_append,List.cons_append,Nat.reduceSub,Nat.reduceAdd,Nat.reduceLeDiff,Bool.not_true,Bool.not_false,if_true,if_false,Bool.false_eq_true,reduceIte,Nat.zero_add,List.getElem?_nil,uy,wz,hp]
   | false=>simp only[yx,zV,yO,vR,yL,sIf,zau,zbn,qQ,sRs,uz,qK,sWh,zaE,zcC,vJ,vU,zay,zfy,fSD,owL,odL,sNx,fC,fNm,f1,f2,zA,zb,fO,fA,fIf,tru,bT,zaG,zfx,bOr,zbw,fOr,zdO,lf,lf',Rs.bind,isN,mkT,mkL,ari,fI,lsD,tpD,sgD,fR,fCp,xN,fLs,fL,fL1,fL2,szL,fCz,vY,yF,zY,fSl,slD,fM,fCh,zbG,isInt,isBool,isStr,isTup,vd,ltI,leI,gtI,geI,ltS,v5,zdE,D.pl,D.py,isS,List.getElem?_cons_zero,List.getElem?_cons_succ,List.set_cons_zero,List.set_cons_succ,List.map_cons,List.map_nil,List.length_cons,List.length_nil,List.replicate,List.append_nil,List.nil_append,List.cons_append,Nat.reduceSub,Nat.reduceAdd,Nat.reduceLeDiff,Bool.not_true,Bool.not_false,if_true,if_false,Bool.false_eq_true,reduceIte,Nat.zero_add,List.getElem?_nil,uy,wz,hp];exact⟨_,rfl,_,_,rfl⟩)
 have e4:forZ 1 2 (sIf (bT (fM isS wz (fNm 2) (fNm 1))) (yO (fO mkT (zb (fNm 1) (zb (fNm 2) zA)))) sNx) (sT ps) (sT ps.tail) [.fz (.tup (sT ps)),.no,.no]=forZ 1 2 (sIf (bT (fM isS wz (fNm 2) (fNm 1))) (yO (fO mkT (zb (fNm 1) (zb (fNm 2) zA)))) sNx) ((ps.zip ps.tail).map fun x=>D.str x.1) ((ps.zip ps.tail).map fun x=>D.str x.2) [.fz (.tup (sT ps)),.no,.no]:=by
  rw[zep,ziA,List.map_map,List.map_map];rfl
 have e5:qK 1 2 (fNm 0) (fSl (fNm 0) (zY (fC (.int 1))) yF) (sIf (bT (fM isS wz (fNm 2) (fNm 1))) (yO (fO mkT (zb (fNm 1) (zb (fNm 2) zA)))) sNx) [.fz (.tup (sT ps)),.no,.no]=forZ 1 2 (sIf (bT (fM isS wz (fNm 2) (fNm 1))) (yO (fO mkT (zb (fNm 1) (zb (fNm 2) zA)))) sNx) ((ps.zip ps.tail).map fun x=>D.str x.1) ((ps.zip ps.tail).map fun x=>D.str x.2) [.fz (.tup (sT ps)),.no,.no]:=by
  rw[← e4]
  unfold qK
  have e6:fSl (fNm 0) (zY (fC (.int 1))) yF [.fz (.tup (sT ps)),.no,.no]=.ok (.tup (sT ps.tail)):=by rw[← zeu];rfl
  rw[e6];rfl
 unfold wY
 cases hf:(ps.zip ps.tail).find? fun x=>x.1.isPrefixOf x.2 with
 | some x =>
  rw[hf] at key
  have e7:wu [.fz (.tup (sT ps)),.no,.no]=.rt (.tup [.str x.1,.str x.2]):=by
   unfold wu zV qQ
   rw[e5,key]
  exact yq e7
 | none =>
  rw[hf] at key
  obtain⟨ρ',k1,a,b,rfl⟩:=key
  have e7:wu [.fz (.tup (sT ps)),.no,.no]=.rt .non:=by
   unfold wu zV qQ
   rw[e5,k1];rfl
  exact yq e7
def Pcs (m:Nat)(ps:List (List Nat)):Prop:=2≤m∧m≤4∧ps≠[]∧ps.length≤32∧∀p∈ps,LetOk m p∧p≠[]∧p.length≤8
theorem zdG {m:Nat}{ps:List (List Nat)}(h:∀p∈ps,p.length≤1000000):vq wj (zbw (fA (ari 2 w5) (zb (fNm 1) (zb (fNm 0) zA))) (f2 (eqD true) (fNm 0) (fC (.str [])))) [.no,.fz (.int m)] (sT ps)=.ok (ps.map fun p=>.bl (isText m p && !decide (p=[]))):=yR _ fun p hp=>by
  simp only[yx,zV,yO,vR,yL,sIf,zau,zbn,qQ,sRs,uz,qK,sWh,zaE,zcC,vJ,vU,zay,zfy,fSD,owL,odL,sNx,fC,fNm,f1,f2,zA,zb,fO,fA,fIf,tru,bT,zaG,zfx,bOr,zbw,fOr,zdO,lf,lf',Rs.bind,isN,mkT,mkL,ari,fI,lsD,tpD,sgD,fR,fCp,xN,fLs,fL,fL1,fL2,szL,fCz,vY,yF,zY,fSl,slD,fM,fCh,zbG,isInt,isBool,isStr,isTup,vd,ltI,leI,gtI,geI,ltS,v5,zdE,D.pl,D.py,isS,List.getElem?_cons_zero,List.getElem?_cons_succ,List.set_cons_zero,List.set_cons_succ,List.map_cons,List.map_nil,List.length_cons,List.length_nil,List.replicate,List.append_nil,List.nil_append,List.cons_append,Nat.reduceSub,Nat.reduceAdd,Nat.reduceLeDiff,Bool.not_true,Bool.not_false,if_true,if_false,Bool.false_eq_true,reduceIte,Nat.zero_add,List.getElem?_nil,uy,zbq m p (h p hp),jq]
  cases isText m p <;>simp
theorem zb8 {m:Nat}{ps:List (List Nat)}(h:Pcs m ps):w6 [.int m,.tup (sT ps)]=.ok (.bl (rising ps)):=by
 obtain⟨m2,m4,hne,hl,hp⟩:=h
 have h1:∀p∈ps,p.length≤1000000:=fun p q=>by have:=(hp p q).2.2;omega
 have e1:(ps.all fun p=>isText m p && !decide (p=[]))=true:=List.all_eq_true.mpr fun p q=>by
  obtain⟨a,b,_⟩:=hp p q
  rw[zf3 m4 a,decide_eq_false b];rfl
 have hpos:1≤ps.length:=List.length_pos_iff.mpr hne
 have d1:decide ((2:Int)≤(m:Int))=true:=decide_eq_true (by omega)
 have d2:decide ((m:Int)≤4)=true:=decide_eq_true (by omega)
 have d3:decide ((1:Int)≤(ps.length:Int))=true:=decide_eq_true (by omega)
 have d4:decide ((ps.length:Int)≤32)=true:=decide_eq_true (by omega)
 have hz:ps.length≤1000000:=by omega
 simp only[w6,uG,yx,zV,yO,vR,yL,sIf,zau,zbn,qQ,sRs,uz,qK,sWh,zaE,zcC,vJ,vU,zay,zfy,fSD,owL,odL,sNx,fC,fNm,f1,f2,zA,zb,fO,fA,fIf,tru,bT,zaG,zfx,bOr,zbw,fOr,zdO,lf,lf',Rs.bind,isN,mkT,mkL,ari,fI,lsD,tpD,sgD,fR,fCp,xN,fLs,fL,fL1,fL2,szL,fCz,vY,yF,zY,fSl,slD,fM,fCh,zbG,isInt,isBool,isStr,isTup,vd,ltI,leI,gtI,geI,ltS,v5,zdE,D.pl,D.py,isS,List.getElem?_cons_zero,List.getElem?_cons_succ,List.set_cons_zero,List.set_cons_succ,List.map_cons,List.map_nil,List.length_cons,List.length_nil,List.replicate,List.append_nil,List.nil_append,List.cons_append,Nat.reduceSub,Nat.reduceAdd,Nat.reduceLeDiff,Bool.not_true,Bool.not_false,if_true,if_false,Bool.false_eq_true,reduceIte,Nat.zero_add,List.getElem?_nil,uy,zdd,d1,d2,Bool.and_self,xG,d3,d4,if_pos hz,zdG h1,zgA,e1,zcW ps hz]
theorem sIter {m:Nat}{ρ:Rho}(h:ρ[0]? = some (.fz (.int (m:Int)))):fI sgD (fSl (fC (.str [97,98,99,100])) yF (zY (fNm 0))) ρ=.ok ((abcd.take m).map fun c=>.str [c]):=by
 have e2:zap [97,98,99,100] none (some (m:Int))=abcd.take m:=zcs abcd m
 simp only[fI,fSl,fC,yF,zY,fNm,h,Rs.bind,slD,lf,e2,sgD]
theorem zfo {m:Nat}(xs:List (List Nat))(hl:∀x∈xs,x.length≤999999)(hn:4*xs.length≤999999):xJ [.int m,.lst (sT xs)]=.ok (.lst (sT (zT m xs))):=by
 have hab:(abcd.take m).length≤4:=by rw[List.length_take];exact Nat.min_le_right _ _
 have inner:∀(x:List Nat) (acc:List (List Nat)) (s:Sl),x.length≤999999→acc.length+4≤999999→∃s',uz 4 (fI sgD (fSl (fC (.str [97,98,99,100])) yF (zY (fNm 0)))) (zaE 2 (f2 q9 (fNm 3) (fNm 4))) [.fz (.int m),.fz (.lst (sT xs)),.ow (sT acc),.fz (.str x),s]=.nx [.fz (.int m),.fz (.lst (sT xs)),.ow (sT (acc++(abcd.take m).map fun c=>x++[c])),.fz (.str x),s']:=by
  intro x acc s hx ha
  rw[xQ (sIter rfl)]
  obtain ⟨ρ',e,s',rfl⟩:=xq (i:=4) (g:=zaE 2 (f2 q9 (fNm 3) (fNm 4))) (l:=abcd.take m) (enc:=fun c=>D.str [c]) (ρ:=[.fz (.int m),.fz (.lst (sT xs)),.ow (sT acc),.fz (.str x),s])
   (fun k ρ=>∃s',ρ=[.fz (.int m),.fz (.lst (sT xs)),.ow (sT (acc++((abcd.take m).take k).map fun c=>x++[c])),.fz (.str x),s']) ⟨s,by simp⟩ (fun k c ρ hc ⟨s',e⟩=>by
    subst e
    have hk:k<(abcd.take m).length:=(List.getElem?_eq_some_iff.mp hc).1
    have e3:(abcd.take m).take (k+1)=(abcd.take m).take k++[c]:=by rw[List.take_add_one,hc];rfl
    have hlen:(sT (acc++((abcd.take m).take k).map fun c=>x++[c])).length<1000000:=by
     rw[xG,List.length_append,List.length_map,List.length_take];omega
    have hz:x.length+1≤1000000:=by omega
    refine⟨_,zdH rfl (yc (a:=.str x) (b:=.str [c]) rfl rfl (qt hz)) hlen,.fz (.str [c]),?_⟩
    have e5:sT (acc++((abcd.take m).take (k+1)).map fun c=>x++[c])=sT (acc++((abcd.take m).take k).map fun c=>x++[c])++[D.str (x++[c])]:=by
     rw[e3,List.map_append,← List.append_assoc,← ziy (acc++_)];rfl
    rw[e5];rfl)
  refine⟨s',e.trans ?_⟩
  rw[List.take_of_length_le (Nat.le_refl _)]
 have outer:=xq (i:=3) (g:=uz 4 (fI sgD (fSl (fC (.str [97,98,99,100])) yF (zY (fNm 0)))) (zaE 2 (f2 q9 (fNm 3) (fNm 4)))) (l:=xs) (enc:=D.str) (ρ:=[.fz (.int m),.fz (.lst (sT xs)),.ow [],.no,.no])
  (fun k ρ=>∃s s',ρ=[.fz (.int m),.fz (.lst (sT xs)),.ow (sT (zT m (xs.take k))),s,s']) ⟨.no,.no,rfl⟩ (fun k x ρ hx ⟨s,s',e⟩=>by
   subst e
   have hk:k<xs.length:=(List.getElem?_eq_some_iff.mp hx).1
   have e3:xs.take (k+1)=xs.take k++[x]:=by rw[List.take_add_one,hx];rfl
   have hg:(zT m (xs.take k)).length≤4*k:=by
    have:(zT m (xs.take k)).length≤4*(xs.take k).length:=by
     unfold zT
     generalize xs.take k=ys
     induction ys with
     | nil=>simp
     | cons y ys ih=>simp only[List.flatMap_cons,List.length_append,List.length_map,List.length_cons];omega
    rw[List.length_take] at this;omega
   obtain⟨s2,e4⟩:=inner x (zT m (xs.take k)) s' (hl x (List.mem_of_getElem? hx)) (by omega)
   refine⟨_,e4,.fz (.str x),s2,?_⟩
   rw[e3]
   unfold zT
   rw[List.flatMap_append]
   simp)
 obtain⟨ρ',e,s,s',rfl⟩:=outer
 rw[List.take_of_length_le (Nat.le_refl _)] at e
 refine yq ?_
 show qY [.fz (.int m),.fz (.lst (sT xs)),.no,.no,.no]=_
 unfold qY
 refine(zx (g:=vU 2 (fL szL zA)) (ρ':=[.fz (.int m),.fz (.lst (sT xs)),.ow [],.no,.no]) rfl).trans ?_
 refine(zx (vX ((xQ (ds:=sT xs) rfl).trans e))).trans ?_
 rfl
theorem zgG {m:Nat}{ps:List (List Nat)}(hl:ps.length≤1000000)(xs:List (List Nat))(hx:∀x∈xs,x.length≤999)(hn:xs.length≤99999)(s3 s4:Sl) :
  match (zT m xs).find? (xO ps) with
  | some x=>zV (yL 3 (fA (ari 2 xJ) (zb (fNm 0) (zb (fNm 2) zA)))) (zV (uz 4 (fI lsD (fNm 3)) (sIf (bT (fA (ari 2 yp) (zb (fNm 1) (zb (fNm 4) zA)))) (yO (fNm 4)) sNx)) (vJ 2 (fCp (fI lsD (fNm 3)) (bT (fA (ari 2 yr) (zb (fNm 1) (zb (fNm 0) zA)))) (fNm 0) [1]))) [.fz (.int m),.fz (.tup (sT ps)),.fz (.lst (sT xs)),s3,s4]=.rt (.str x)
  | none=>∃s3' s4',zV (yL 3 (fA (ari 2 xJ) (zb (fNm 0) (zb (fNm 2) zA)))) (zV (uz 4 (fI lsD (fNm 3)) (sIf (bT (fA (ari 2 yp) (zb (fNm 1) (zb (fNm 4) zA)))) (yO (fNm 4)) sNx)) (vJ 2 (fCp (fI lsD (fNm 3)) (bT (fA (ari 2 yr) (zb (fNm 1) (zb (fNm 0) zA)))) (fNm 0) [1]))) [.fz (.int m),.fz (.tup (sT ps)),.fz (.lst (sT xs)),s3,s4]=.nx [.fz (.int m),.fz (.tup (sT ps)),.fz (.lst (sT ((zT m xs).filter (isInner ps)))),s3',s4']:=by
 have eg:=zfo (m:=m) xs (fun x q=>by have:=hx x q;omega) (by omega)
 have e1:(yL 3 (fA (ari 2 xJ) (zb (fNm 0) (zb (fNm 2) zA)))) [.fz (.int m),.fz (.tup (sT ps)),.fz (.lst (sT xs)),s3,s4]=.nx [.fz (.int m),.fz (.tup (sT ps)),.fz (.lst (sT xs)),.fz (.lst (sT (zT m xs))),s4]:=by
  refine zH (d:=.lst (sT (zT m xs))) ?_
  exact eg
 have hgl:(zT m xs).length≤1000000:=by
  have hab:(abcd.take m).length≤4:=by rw[List.length_take];exact Nat.min_le_right _ _
  have:(zT m xs).length≤4*xs.length:=by
   unfold zT
   clear hn hx eg e1
   induction xs with
   | nil=>simp
   | cons y ys ih=>simp only[List.flatMap_cons,List.length_append,List.length_map,List.length_cons];omega
  omega
 have key:=zgJ (i:=4) (g:=sIf (bT (fA (ari 2 yp) (zb (fNm 1) (zb (fNm 4) zA)))) (yO (fNm 4)) sNx) (ρ:=[.fz (.int m),.fz (.tup (sT ps)),.fz (.lst (sT xs)),.fz (.lst (sT (zT m xs))),s4]) (l:=zT m xs) (enc:=D.str)
  (fun ρ=>∃a,ρ=[.fz (.int m),.fz (.tup (sT ps)),.fz (.lst (sT xs)),.fz (.lst (sT (zT m xs))),a]) (xO ps) (fun x=>.str x) ⟨_,rfl⟩ (fun x hx ρ ⟨a,e⟩=>by
   subst e
   have ea:(bT (fA (ari 2 yp) (zb (fNm 1) (zb (fNm 4) zA)))) [.fz (.int m),.fz (.tup (sT ps)),.fz (.lst (sT xs)),.fz (.lst (sT (zT m xs))),.fz (.str x)]=.ok (xO ps x):=by
    show(yp [.tup (sT ps),.str x]).bind tru=_
    rw[zeh ps x hl];rfl
   cases hp:xO ps x with
   | true=>rw[if_pos rfl];rw[hp] at ea;exact(zbx ea).trans rfl
   | false=>rw[if_neg Bool.false_ne_true];rw[hp] at ea;exact⟨_,(ze2 ea).trans rfl,_,rfl⟩)
 cases hf:(zT m xs).find? (xO ps) with
 | some x =>
  rw[hf] at key
  refine(zx e1).trans (zcu ((xQ (ds:=sT (zT m xs)) rfl).trans key))
 | none =>
  rw[hf] at key
  obtain⟨ρ',k1,a,rfl⟩:=key
  have ec:vq (bT (fA (ari 2 yr) (zb (fNm 1) (zb (fNm 0) zA)))) (fNm 0) [.no,.fz (.tup (sT ps))] (sT (zT m xs))=.ok (((zT m xs).filter (isInner ps)).map .str):=zaL _ _ fun x hx=>⟨by
   show(yr [.tup (sT ps),.str x]).bind tru=_
   rw[zdQ ps x hl];rfl,fun _=>rfl⟩
  refine⟨.fz (.lst (sT (zT m xs))),a,(zx e1).trans ((zx ((xQ (ds:=sT (zT m xs)) rfl).trans k1)).trans ?_)⟩
  have e5:fCp (fI lsD (fNm 3)) (bT (fA (ari 2 yr) (zb (fNm 1) (zb (fNm 0) zA)))) (fNm 0) [1] [.fz (.int m),.fz (.tup (sT ps)),.fz (.lst (sT xs)),.fz (.lst (sT (zT m xs))),a]=.ok (sT ((zT m xs).filter (isInner ps))):=by
   show(if (sT (zT m xs)).length≤1000000 then vq _ _ [.no,.fz (.tup (sT ps))] (sT (zT m xs)) else .no)=_
   rw[xG,if_pos hgl]
   exact ec
  unfold vJ
  rw[e5];rfl
theorem zdi:∀(xs ys:List (List Nat)),PyData.eqvAll (D.pys (sT xs)) (D.pys (sT ys))=decide (xs=ys)
 | [],[]=>rfl
 | [],_::_=>rfl
 | _::_,[]=>rfl
 | x::xs,y::ys=>by
  show(PyData.eqv (.str (T x)) (.str (T y))&&PyData.eqvAll (D.pys (sT xs)) (D.pys (sT ys)))=_
  rw[zdi xs ys,zdS]
  by_cases h:x=y <;>by_cases h2:xs=ys <;>simp[h,h2]
theorem ziV:∀xs:List (List Nat),PyData.depthAll (D.pys (sT xs))=0
 | []=>rfl
 | x::xs=>by
  show max (PyData.depth (.str (T x))) (PyData.depthAll (D.pys (sT xs)))=0
  rw[ziV xs];rfl
theorem zbS (neg:Bool)(xs ys:List (List Nat)):eqD neg (.lst (sT xs)) (.lst (sT ys))=some (.bl (if neg then !decide (xs=ys) else decide (xs=ys))):=by
 have h:(D.lst (sT xs)).pl=true∧(D.lst (sT ys)).pl=true∧(D.lst (sT xs)).py.depth≤60:=⟨uy xs,uy ys,by show PyData.depthAll (D.pys (sT xs))+1≤60;rw[ziV];omega⟩
 unfold eqD
 rw[if_pos h]
 show some (D.bl (if neg=true then !PyData.eqvAll (D.pys (sT xs)) (D.pys (sT ys)) else PyData.eqvAll (D.pys (sT xs)) (D.pys (sT ys))))=_
 rw[zdi]
theorem zh5 {m:Nat}(m4:m≤4){ps:List (List Nat)}(hl:ps.length≤1000000)(h8:∀p∈ps,p.length≤8):∀(k L n:Nat) (xs:List (List Nat)) (s3 s4:Sl),L+k=10→(∀x∈xs,x.length=L∧(L=0∨isInner ps x=true))→xs.length≤4 ^ L→k<n →
  match fta m ps k xs with
  | some x=>whD (bT (f2 (eqD true) (fNm 2) (fO mkL zA))) (zV (yL 3 (fA (ari 2 xJ) (zb (fNm 0) (zb (fNm 2) zA)))) (zV (uz 4 (fI lsD (fNm 3)) (sIf (bT (fA (ari 2 yp) (zb (fNm 1) (zb (fNm 4) zA)))) (yO (fNm 4)) sNx)) (vJ 2 (fCp (fI lsD (fNm 3)) (bT (fA (ari 2 yr) (zb (fNm 1) (zb (fNm 0) zA)))) (fNm 0) [1])))) n [.fz (.int m),.fz (.tup (sT ps)),.fz (.lst (sT xs)),s3,s4]=.rt (.str x)
  | none=>∃ρ',whD (bT (f2 (eqD true) (fNm 2) (fO mkL zA))) (zV (yL 3 (fA (ari 2 xJ) (zb (fNm 0) (zb (fNm 2) zA)))) (zV (uz 4 (fI lsD (fNm 3)) (sIf (bT (fA (ari 2 yp) (zb (fNm 1) (zb (fNm 4) zA)))) (yO (fNm 4)) sNx)) (vJ 2 (fCp (fI lsD (fNm 3)) (bT (fA (ari 2 yr) (zb (fNm 1) (zb (fNm 0) zA)))) (fNm 0) [1])))) n [.fz (.int m),.fz (.tup (sT ps)),.fz (.lst (sT xs)),s3,s4]=.nx ρ':=by
 intro k
 induction k with
 | zero =>
  intro L n xs s3 s4 hL hx hn hk
  have:xs=[]:=by
   cases xs with
   | nil=>rfl
   | cons x xs =>
    obtain⟨e1,e2⟩:=hx x (.head _)
    rcases e2 with e2|e2
    ·omega
    ·have:=zaN e2 h8;omega
  subst this
  obtain⟨n',rfl⟩:∃n',n=n'+1:=⟨n - 1,by omega⟩
  refine⟨[.fz (.int m),.fz (.tup (sT ps)),.fz (.lst (sT [])),s3,s4],?_⟩
  unfold whD
  have e0:(bT (f2 (eqD true) (fNm 2) (fO mkL zA))) [.fz (.int m),.fz (.tup (sT ps)),.fz (.lst (sT [])),s3,s4]=.ok false:=by
   show(lf (eqD true (.lst (sT [])) (.lst (sT [])))).bind tru=_
   rw[zbS];rfl
  rw[e0]
 | succ k ih =>
  intro L n xs s3 s4 hL hx hn hk
  obtain⟨n',rfl⟩:∃n',n=n'+1:=⟨n - 1,by omega⟩
  have et:(bT (f2 (eqD true) (fNm 2) (fO mkL zA))) [.fz (.int m),.fz (.tup (sT ps)),.fz (.lst (sT xs)),s3,s4]=.ok (!decide (xs=[])):=by
   show(lf (eqD true (.lst (sT xs)) (.lst (sT [])))).bind tru=_
   rw[zbS];rfl
  by_cases h0:xs=[]
  ·have ef:fta m ps (k+1) xs=none:=by unfold fta;rw[if_pos h0]
   rw[ef]
   refine⟨[.fz (.int m),.fz (.tup (sT ps)),.fz (.lst (sT xs)),s3,s4],?_⟩
   unfold whD
   rw[et,decide_eq_true h0]
   rfl
  ·have ef:fta m ps (k+1) xs=match (zT m xs).find? (xO ps) with|some x=>some x|none=>fta m ps k ((zT m xs).filter (isInner ps)):=by
    rw[fta.eq_2,if_neg h0]
    all_goals (cases (zT m xs).find? (xO ps) <;>rfl)
   rw[decide_eq_false h0] at et
   have hLs:L≤7:=by
    cases xs with
    | nil=>exact absurd rfl h0
    | cons x xs =>
     obtain⟨e1,e2⟩:=hx x (.head _)
     rcases e2 with e2|e2
     ·omega
     ·have:=zaN e2 h8;omega
   have hpow:(4:Nat) ^ L≤4 ^ 7:=Nat.pow_le_pow_right (by decide) hLs
   have h47:(4:Nat) ^ 7=16384:=by decide
   have R:=zgG (m:=m) hl xs (fun x q=>by have:=(hx x q).1;omega) (by omega) s3 s4
   rw[ef]
   cases hf:(zT m xs).find? (xO ps) with
   | some x =>
    rw[hf] at R
    show whD _ _ (n'+1) _=_
    unfold whD
    rw[et]
    simp only[Bool.not_false]
    rw[R]
   | none =>
    rw[hf] at R
    obtain⟨s3',s4',R⟩:=R
    have hx':∀x∈(zT m xs).filter (isInner ps),x.length=L+1∧(L+1=0∨isInner ps x=true):=fun x q=>by
     obtain⟨q1,q2⟩:=List.mem_filter.mp q
     obtain⟨y,hy,c,hc,rfl⟩:=zbD q1
     exact⟨by rw[List.length_append,(hx y hy).1];rfl,.inr q2⟩
    have hn':((zT m xs).filter (isInner ps)).length≤4 ^ (L+1):=by
     have h1:((zT m xs).filter (isInner ps)).length≤(zT m xs).length:=List.length_filter_le _ _
     have h2:=ze3 m m4 xs
     rw[Nat.pow_succ];omega
    have:=ih (L+1) n' _ s3' s4' (by omega) hx' hn' (by omega)
    have es:whD (bT (f2 (eqD true) (fNm 2) (fO mkL zA))) (zV (yL 3 (fA (ari 2 xJ) (zb (fNm 0) (zb (fNm 2) zA)))) (zV (uz 4 (fI lsD (fNm 3)) (sIf (bT (fA (ari 2 yp) (zb (fNm 1) (zb (fNm 4) zA)))) (yO (fNm 4)) sNx)) (vJ 2 (fCp (fI lsD (fNm 3)) (bT (fA (ari 2 yr) (zb (fNm 1) (zb (fNm 0) zA)))) (fNm 0) [1])))) (n'+1) [.fz (.int m),.fz (.tup (sT ps)),.fz (.lst (sT xs)),s3,s4]=whD (bT (f2 (eqD true) (fNm 2) (fO mkL zA))) (zV (yL 3 (fA (ari 2 xJ) (zb (fNm 0) (zb (fNm 2) zA)))) (zV (uz 4 (fI lsD (fNm 3)) (sIf (bT (fA (ari 2 yp) (zb (fNm 1) (zb (fNm 4) zA)))) (yO (fNm 4)) sNx)) (vJ 2 (fCp (fI lsD (fNm 3)) (bT (fA (ari 2 yr) (zb (fNm 1) (zb (fNm 0) zA)))) (fNm 0) [1])))) n' [.fz (.int m),.fz (.tup (sT ps)),.fz (.lst (sT ((zT m xs).filter (isInner ps)))),s3',s4']:=by
     rw[whD.eq_2,et]
     simp only[Bool.not_false]
     rw[R]
    simp only[es]
    exact this
theorem zbZ {m:Nat}(m4:m≤4){ps:List (List Nat)}(hl:ps.length≤1000000)(h8:∀p∈ps,p.length≤8):yX [.int m,.tup (sT ps)]=.ok (match vP m ps with|some x=>.str x|none=>.non):=by
 have:=zh5 m4 hl h8 10 0 2000 [[]] .no .no rfl (fun x hx=>by rw[List.mem_singleton.mp hx];exact⟨rfl,.inl rfl⟩) (by decide) (by decide)
 unfold vP
 cases hf:fta m ps 10 [[]] with
 | some x =>
  rw[hf] at this
  refine yq ?_
  exact(zx (ρ':=[.fz (.int m),.fz (.tup (sT ps)),.fz (.lst (sT [[]])),.no,.no]) rfl).trans (zcu (zi3 this))
 | none =>
  rw[hf] at this
  obtain⟨ρ',e⟩:=this
  refine yq ?_
  exact(zx (ρ':=[.fz (.int m),.fz (.tup (sT ps)),.fz (.lst (sT [[]])),.no,.no]) rfl).trans ((zx (vX e)).trans rfl)
def zlW (m:Nat)(ps:List (List Nat)):D:=match wY ps with
 | some x=>.tup [.str x.1,.str x.2]
 | none=>(match vP m ps with|some x=>.str x|none=>.non)
theorem zbp {m:Nat}(m4:m≤4){ps:List (List Nat)}(hl:ps.length≤1000000)(h8:∀p∈ps,p.length≤8):vK [.int m,.tup (sT ps)]=.ok (zlW m ps):=by
 refine yq ?_
 show wX [.fz (.int m),.fz (.tup (sT ps)),.no]=_
 unfold wX zlW
 cases hf:wY ps with
 | some x =>
  have e1:yL 2 (fA (ari 1 xg) (zb (fNm 1) zA)) [.fz (.int m),.fz (.tup (sT ps)),.no]=.nx [.fz (.int m),.fz (.tup (sT ps)),.fz (.tup [.str x.1,.str x.2])]:=zH (d:=.tup [.str x.1,.str x.2]) (by
   show xg [.tup (sT ps)]=_
   rw[jH,hf])
  exact(zx e1).trans (zcu rfl)
 | none =>
  have e1:yL 2 (fA (ari 1 xg) (zb (fNm 1) zA)) [.fz (.int m),.fz (.tup (sT ps)),.no]=.nx [.fz (.int m),.fz (.tup (sT ps)),.fz .non]:=zH (d:=.non) (by
   show xg [.tup (sT ps)]=_
   rw[jH,hf])
  refine(zx e1).trans ((zx (ρ':=[.fz (.int m),.fz (.tup (sT ps)),.fz .non]) rfl).trans (xj ?_))
  show yX [.int m,.tup (sT ps)]=_
  rw[zbZ m4 hl h8]
theorem zhB {m:Nat}{ps:List (List Nat)}:isN false (zlW m ps)=some (.bl ((wY ps).isNone&&(vP m ps).isNone)):=by
 unfold zlW
 cases wY ps with
 | some x=>rfl
 | none=>cases vP m ps <;>rfl
theorem zbM {m:Nat}{ps:List (List Nat)}(h:Pcs m ps):wG [.int m,.tup (sT ps)]=.ok (.bl (isBook m ps)):=by
 have h8:∀p∈ps,p.length≤8:=fun p q=>(h.2.2.2.2 p q).2.2
 have hl:ps.length≤1000000:=by have:=h.2.2.2.1;omega
 refine yq (xj ?_)
 show(w6 [.int m,.tup (sT ps)]).bind (fun a=>(tru a).bind fun b=>if b=true then(vK [.int m,.tup (sT ps)]).bind (fun a=>lf (isN false a)) else .ok (.bl false))=_
 rw[zb8 h,zbp h.2.1 hl h8]
 show(if rising ps=true then lf (isN false (zlW m ps)) else Rs.ok (D.bl false))=_
 rw[zhB]
 unfold isBook
 cases rising ps <;>simp[lf]
theorem wg {m:Nat}{ps:List (List Nat)}(h:Pcs m ps)(hr:isBook m ps=true):yG [.int m,.tup (sT ps)]=.ok .non:=by
 refine zeb (ρ:=[.fz (.int m),.fz (.tup (sT ps))]) ?_
 refine(ze2 ?_).trans rfl
 show((wG [.int m,.tup (sT ps)]).bind tru).bind (fun b=>Rs.ok !b)=_
 rw[zbM h,hr];rfl
def dK (ks:List (List Nat)):List (List Nat×D):=ks.map fun k=>(k,.bl true)
def zdf (ns:List Int)(k:Int):Int:=if ns=[] then 7*k else ns.getD (k % ns.length).toNat 0+6553*(k / ns.length)
def qI (ns:List Int)(k m:Int):Int :=
 let c1:=(zdf ns k % 2147483563*69069+104723*(k+1)) % 2147483563
 let c2:=(c1*c1+c1 / 3) % 2147483399
 (c2*c2+c2 / 7) % 2147483647 / 11 % m
theorem wk (ns:List Int)(k:Int){m:Int}(hm:0<m):0≤qI ns k m∧qI ns k m<m:=by
 unfold qI
 exact⟨Int.emod_nonneg _ (by omega),Int.emod_lt_of_pos _ (by omega)⟩
def scD (ns:List Int):D:=.lst (ns.map .int)
theorem zeq:∀ns:List Int,D.pls (ns.map .int)=true
 | []=>rfl
 | n::ns=>by show((D.int n).pl&&D.pls (ns.map .int))=true;rw[zeq ns];rfl
theorem zeW:∀ns:List Int,PyData.depthAll (D.pys (ns.map .int))=0
 | []=>rfl
 | n::ns=>by show max 0 (PyData.depthAll (D.pys (ns.map .int)))=0;rw[zeW ns];rfl
theorem ze4 (ns:List Int):eqD false (scD ns) (.lst [])=some (.bl (decide (ns=[]))):=by
 have h:(scD ns).pl=true∧(D.lst []).pl=true∧(scD ns).py.depth≤60:=⟨zeq ns,rfl,by show PyData.depthAll (D.pys (ns.map .int))+1≤60;rw[zeW];omega⟩
 unfold eqD
 rw[if_pos h]
 cases ns <;>rfl
theorem cell_eq (ns:List Int)(hn:ns.length≤63)(k:Int)(h0:0≤k)(h1:k<1000):uL [scD ns,.int k]=.ok (.int (zdf ns k)):=by
 refine yq ?_
 show uq [.fz (scD ns),.fz (.int k)]=_
 unfold uq zdf
 have e1:(bT (f2 (eqD false) (fNm 0) (fO mkL zA))) [.fz (scD ns),.fz (.int k)]=.ok (decide (ns=[])):=by
  show(lf (eqD false (scD ns) (.lst []))).bind tru=_
  rw[ze4];rfl
 by_cases h:ns=[]
 ·rw[decide_eq_true h] at e1
  rw[if_pos h]
  exact zcu ((zbx e1).trans (xj (uU rfl rfl (vQ (by omega)) (vQ (by omega)))))
 ·rw [decide_eq_false h] at e1
  rw[if_neg h]
  refine(zx (ρ':=[.fz (scD ns),.fz (.int k)]) ((ze2 e1).trans rfl)).trans (xj ?_)
  have hl:0<ns.length:=List.length_pos_iff.mpr h
  have el:fO vd (zb (fNm 0) zA) [.fz (scD ns),.fz (.int k)]=.ok (.int (ns.length:Int)):=by
   show Rs.ok (D.int ((ns.map D.int).length:Int))=_
   rw[List.length_map]
  have hp:(0:Int)<(ns.length:Int):=by omega
  have r1:=Int.emod_nonneg k (show(ns.length:Int)≠0 by omega)
  have r2:=Int.emod_lt_of_pos k hp
  have hd:0≤k / (ns.length:Int):=Int.ediv_nonneg h0 (by omega)
  have hd2:k / (ns.length:Int)≤k:=Int.ediv_le_self _ h0
  obtain⟨j,hj⟩:=Int.eq_ofNat_of_zero_le r1
  have hjl:j<ns.length:=by omega
  have ei:f2 ixD (fNm 0) (f2 zcS (fNm 1) (fO vd (zb (fNm 0) zA))) [.fz (scD ns),.fz (.int k)]=.ok (.int (ns.getD (k % (ns.length:Int)).toNat 0)):=by
   refine yc (a:=scD ns) (b:=.int (k % (ns.length:Int))) rfl (uR rfl el hp) ?_
   show atI (ns.map D.int) (k % (ns.length:Int))=_
   rw[hj]
   have:=zjo (xs:=ns.map D.int) (j:=j) (v:=.int ns[j]) (by rw[List.getElem?_map,List.getElem?_eq_getElem hjl];rfl)
   rw[this,Int.toNat_natCast,List.getD_eq_getElem?_getD,List.getElem?_eq_getElem hjl];rfl
  exact vp ei (uU rfl (kJ rfl el hp (vQ (by omega))) (vQ (by omega)) (vQ (by omega)))
theorem qG (ns:List Int)(hn:ns.length≤63)(k m:Int)(h0:0≤k)(h1:k<1000)(hm:0<m):zP [scD ns,.int k,.int m]=.ok (.int (qI ns k m)):=by
 refine yq ?_
 show vN [.fz (scD ns),.fz (.int k),.fz (.int m),.no]=_
 have hD:∀c1 c2,(zdf ns k % 2147483563*69069+104723*(k+1)) % 2147483563=c1→(c1*c1+c1 / 3) % 2147483399=c2→qI ns k m=(c2*c2+c2 / 7) % 2147483647 / 11 % m:=by
  rintro _ _ rfl rfl;rfl
 unfold vN
 have ec:fA (ari 2 uL) (zb (fNm 0) (zb (fNm 1) zA)) [.fz (scD ns),.fz (.int k),.fz (.int m),.no]=.ok (.int (zdf ns k)):=cell_eq ns hn k h0 h1
 have a1:=Int.emod_nonneg (zdf ns k) (show(2147483563:Int)≠0 by decide)
 have a2:=Int.emod_lt_of_pos (zdf ns k) (show(0:Int)<2147483563 by decide)
 generalize hc1:(zdf ns k % 2147483563*69069+104723*(k+1)) % 2147483563=c1
 have b1:0≤c1:=hc1▸Int.emod_nonneg _ (by decide)
 have b2:c1<2147483563:=hc1▸Int.emod_lt_of_pos _ (by decide)
 refine(zx (ρ':=[.fz (scD ns),.fz (.int k),.fz (.int m),.fz (.int c1)]) ?_).trans ?_
 ·rw[← hc1]
  exact zH (uR (vp (uU (uR ec rfl (by decide)) rfl (vQ (by omega)) (vQ (by decide))) (uU rfl (vp rfl rfl) (vQ (by decide)) (vQ (by omega)))) rfl (by decide))
 generalize hc2:(c1*c1+c1 / 3) % 2147483399=c2
 have d1:0≤c2:=hc2▸Int.emod_nonneg _ (by decide)
 have d2:c2<2147483399:=hc2▸Int.emod_lt_of_pos _ (by decide)
 refine(zx (ρ':=[.fz (scD ns),.fz (.int k),.fz (.int m),.fz (.int c2)]) ?_).trans ?_
 ·rw[← hc2]
  exact zH (uR (vp (uU rfl rfl (vQ (by omega)) (vQ (by omega))) (kJ rfl rfl (by decide) (vQ (by decide)))) rfl (by decide))
 rw[hD c1 c2 hc1 hc2]
 exact xj (uR (kJ (uR (vp (uU rfl rfl (vQ (by omega)) (vQ (by omega))) (kJ rfl rfl (by decide) (vQ (by decide)))) rfl (by decide)) rfl (by decide) (vQ (by decide))) rfl hm)
theorem zf2 {j:Nat}(h:j<4):ixD (.str [97,98,99,100]) (.int (j:Int))=some (.str [abcd.getD j 0]):=by
 have e:j=0∨j=1∨j=2∨j=3:=by omega
 rcases e with rfl|rfl|rfl|rfl <;>rfl
def bkF (ns:List Int)(at':Nat)(m:Nat):Nat→List (List Nat)
 | 0=>kids m []
 | t+1=>part m (bkF ns at' m t) (qI ns ((at':Int)+(t:Int)) ((bkF ns at' m t).length:Int)).toNat
theorem zgM (ns:List Int)(at':Nat){m:Nat}(m2:2≤m)(m4:m≤4):∀t:Nat,My.Gr m t (bkF ns at' m t)
 | 0=>.z
 | t+1=>by
  have g:=zgM ns at' m2 m4 t
  have hl:=g.len m2 m4
  have hd:=wk ns ((at':Int)+(t:Int)) (m:=((bkF ns at' m t).length:Int)) (by rw[hl];omega)
  exact .s g (by omega)
theorem zfM (m:Nat)(m4:m≤4)(p:List Nat):kids m p=(List.range m).map fun i=>p++[abcd.getD i 0]:=by
 unfold kids
 have:∀m≤4,abcd.take m=(List.range m).map fun i=>abcd.getD i 0:=by decide
 rw[this m m4,List.map_map];rfl
theorem zfI {ls:List (List Nat)}(h:ls.length<64):zgr [.lst (sT ls)]=some (sT (sortF ls)):=by
 dsimp only [zgr]
 unfold zhg
 rw[if_pos ⟨j5 ls,by rw[xG];exact h⟩,j8];rfl
theorem ziu (ls:List (List Nat))(k:Nat):(sT ls).eraseIdx k=sT (ls.eraseIdx k):=by
 exact zdr D.str ls k
theorem zjk (ns:List Int)(hn:ns.length≤63)(at':Nat){m:Nat}(m2:2≤m)(m4:m≤4)(t:Nat)(ht:t≤8)(hat:at'≤900):qM [scD ns,.int at',.int m,.int t]=.ok (.tup (sT (bkF ns at' m t))):=by
 have e0:fCp (fR j9 (zb (fNm 2) zA)) wj (f2 ixD (fC (.str [97,98,99,100])) (fNm 0)) [] [.fz (scD ns),.fz (.int at'),.fz (.int m),.fz (.int t),.no,.no,.no]=.ok (sT (kids m [])):=by
  refine zeU (jc (ds:=[.int (m:Int)]) rfl (xU (by omega))) (by rw[List.length_map,List.length_range];omega) ?_
  rw[zfM m m4]
  have:=yR (fe:=f2 ixD (fC (.str [97,98,99,100])) (fNm 0)) (ρ0:=[.no]) (l:=List.range m) (enc:=fun(k:Nat)=>D.int (k:Int)) (fun i=>.str ([]++[abcd.getD i 0])) fun i hi=>yc (a:=.str [97,98,99,100]) (b:=.int (i:Int)) rfl rfl (zf2 (by have:=List.mem_range.mp hi;omega))
  unfold sT
  rw[List.map_map]
  exact this
 have loop:=xq (i:=5) (g:=zV (zcC 4 6 (fFl 4 (fA (ari 3 zP) (zb (fNm 0) (zb (f2 v5 (fNm 1) (fNm 5)) (zb (fO vd (zb (fNm 4) zA)) zA)))))) (zbn 4 (vU 4 (fL zgr (zb (fLs (fL2 zf8 (fNm 4) (xN (fR j9 (zb (fNm 2) zA)) wj (f2 q9 (fNm 1) (f2 ixD (fC (.str [97,98,99,100])) (fNm 0))) [6]))) zA))))) (l:=List.range t) (enc:=fun(k:Nat)=>D.int (k:Int)) (ρ:=[.fz (scD ns),.fz (.int at'),.fz (.int m),.fz (.int t),.ow (sT (kids m [])),.no,.no])
  (fun k ρ=>∃s s',ρ=[.fz (scD ns),.fz (.int at'),.fz (.int m),.fz (.int t),.ow (sT (bkF ns at' m k)),s,s']) ⟨.no,.no,rfl⟩ (fun k c ρ hc ⟨s,s',e⟩=>by
   subst e
   have hk:k<t:=by have:=(List.getElem?_eq_some_iff.mp hc).1;simpa using this
   have ec:c=k:=by rw[List.getElem?_range hk] at hc;exact(Option.some.inj hc).symm
   subst ec
   have g:=zgM ns at' m2 m4 c
   have hl:=g.len m2 m4
   have hsh:=g.short m2 m4
   have hll:(bkF ns at' m c).length≤28:=by
    rw[hl]
    have:c*(m - 1)≤8*3:=Nat.mul_le_mul (by omega) (by omega)
    omega
   have hpos:0<(bkF ns at' m c).length:=by rw[hl];omega
   have hd:=wk ns ((at':Int)+(c:Int)) (m:=((bkF ns at' m c).length:Int)) (by omega)
   obtain⟨j,hj⟩:=Int.eq_ofNat_of_zero_le hd.1
   rw[hj] at hd
   have hjl:j<(bkF ns at' m c).length:=by omega
   have eB:bkF ns at' m (c+1)=part m (bkF ns at' m c) j:=by
    show part m (bkF ns at' m c) (qI ns ((at':Int)+(c:Int)) ((bkF ns at' m c).length:Int)).toNat=_
    rw[hj];rfl
   rw[eB]
   generalize hB:bkF ns at' m c=B at *
   have ed:fFl 4 (fA (ari 3 zP) (zb (fNm 0) (zb (f2 v5 (fNm 1) (fNm 5)) (zb (fO vd (zb (fNm 4) zA)) zA)))) [.fz (scD ns),.fz (.int at'),.fz (.int m),.fz (.int t),.ow (sT B),.fz (.int (c:Int)),s']=.ok (.int (j:Int)):=by
    refine zlz rfl ?_ rfl
    show zP [scD ns,.int ((at':Int)+(c:Int)),.int ((sT B).length:Int)]=_
    rw[xG,← hj]
    exact qG ns hn _ _ (by omega) (by omega) (by omega)
   have ep:(sT B)[j]? = some (.str B[j]):=by unfold sT;rw[List.getElem?_map,List.getElem?_eq_getElem hjl];rfl
   have eg:B.getD j []=B[j]:=by rw[List.getD_eq_getElem?_getD,List.getElem?_eq_getElem hjl];rfl
   have hp8:=hsh B[j] (List.getElem_mem hjl)
   refine⟨_,(zx (zjI rfl ed (by omega) ep)).trans ?_,.fz (.int (c:Int)),.fz (.str B[j]),rfl⟩
   rw[ziu]
   refine(zed (ds:=sT (B.eraseIdx j)) rfl).trans ?_
   refine(zaD (d:=sT (part m B j)) ?_).trans rfl
   have ek:xN (fR j9 (zb (fNm 2) zA)) wj (f2 q9 (fNm 1) (f2 ixD (fC (.str [97,98,99,100])) (fNm 0))) [6] [.fz (scD ns),.fz (.int at'),.fz (.int m),.fz (.int t),.fz (.lst (sT (B.eraseIdx j))),.fz (.int (c:Int)),.fz (.str B[j])]=.ok (.lst (sT (kids m B[j]))):=by
    refine vL (jc (ds:=[.int (m:Int)]) rfl (xU (by omega))) (by rw[List.length_map,List.length_range];omega) ?_
    rw[zfM m m4]
    have:=yR (fe:=f2 q9 (fNm 1) (f2 ixD (fC (.str [97,98,99,100])) (fNm 0))) (ρ0:=[.no,.fz (.str B[j])]) (l:=List.range m) (enc:=fun(k:Nat)=>D.int (k:Int)) (fun i=>.str (B[j]++[abcd.getD i 0])) fun i hi=>yc (a:=.str B[j]) (b:=.str [abcd.getD i 0]) rfl (yc (a:=.str [97,98,99,100]) (b:=.int (i:Int)) rfl rfl (zf2 (by have:=List.mem_range.mp hi;omega))) (qt (by show B[j].length+1≤_;omega))
    unfold sT
    rw[List.map_map]
    exact this
   have el:(B.eraseIdx j++kids m B[j]).length<64:=by
    rw[List.length_append,zcf m m4,List.length_eraseIdx,if_pos hjl];omega
   have ecat:fL2 zf8 (fNm 4) (xN (fR j9 (zb (fNm 2) zA)) wj (f2 q9 (fNm 1) (f2 ixD (fC (.str [97,98,99,100])) (fNm 0))) [6]) [.fz (scD ns),.fz (.int at'),.fz (.int m),.fz (.int t),.fz (.lst (sT (B.eraseIdx j))),.fz (.int (c:Int)),.fz (.str B[j])]=.ok (sT (B.eraseIdx j++kids m B[j])):=by
    unfold fL2
    rw[ek]
    show lf' (zf8 (.lst (sT (B.eraseIdx j))) (.lst (sT (kids m B[j]))))=_
    dsimp only [zf8]
    rw[if_pos (by rw[xG,xG,← List.length_append];omega),ziy];rfl
   refine zmO (zJ (zc2 ecat) rfl) ?_
   rw[zfI el]
   unfold part
   rw[eg])
 obtain⟨ρ',e,s,s',rfl⟩:=loop
 rw[List.length_range] at e
 refine yq ?_
 show uo [.fz (scD ns),.fz (.int at'),.fz (.int m),.fz (.int t),.no,.no,.no]=_
 unfold uo
 refine(zx (zaD e0)).trans ((zx (vX ((xQ (jc (ds:=[.int (t:Int)]) rfl (xU (by omega)))).trans e))).trans ?_)
 rfl
end Pg
set_option maxHeartbeats 4000000
namespace Pg
open PySem L2 PyProof.Rows
end Pg
set_option maxHeartbeats 1000000
namespace Pg
open PySem L2 My
theorem fA1 {fn:List D→Rs D}{f:Rho→Rs D}{ρ:Rho}{a:D}(e1:f ρ=.ok a):fA (ari 1 fn) (zb f zA) ρ=fn [a]:=by
 unfold fA;rw[zJ e1 rfl];rfl
theorem fA2 {fn:List D→Rs D}{f g:Rho→Rs D}{ρ:Rho}{a b:D}(e1:f ρ=.ok a)(e2:g ρ=.ok b):fA (ari 2 fn) (zb f (zb g zA)) ρ=fn [a,b]:=by
 unfold fA;rw[zJ e1 (zJ e2 rfl)];rfl
theorem fA3 {fn:List D→Rs D}{f g h:Rho→Rs D}{ρ:Rho}{a b c:D}(e1:f ρ=.ok a)(e2:g ρ=.ok b)(e3:h ρ=.ok c):fA (ari 3 fn) (zb f (zb g (zb h zA))) ρ=fn [a,b,c]:=by
 unfold fA;rw[zJ e1 (zJ e2 (zJ e3 rfl))];rfl
theorem fA4 {fn:List D→Rs D}{f g h i:Rho→Rs D}{ρ:Rho}{a b c d:D}(e1:f ρ=.ok a)(e2:g ρ=.ok b)(e3:h ρ=.ok c)(e4:i ρ=.ok d):fA (ari 4 fn) (zb f (zb g (zb h (zb i zA)))) ρ=fn [a,b,c,d]:=by
 unfold fA;rw[zJ e1 (zJ e2 (zJ e3 (zJ e4 rfl)))];rfl
theorem ifF {ft:Rho→Rs Bool}{g:Rho→Out}{ρ:Rho}(e:ft ρ=.ok false):sIf ft g sNx ρ=.nx ρ:=ze2 e
theorem xH {f:Rho→Rs D}{ρ:Rho}{b:Bool}(e:f ρ=.ok (.bl b)):bT f ρ=.ok b:=by unfold bT;rw[e];rfl
theorem jo {f:Rho→Rs Bool}{ρ:Rho}{b:Bool}(e:f ρ=.ok b):zaG f ρ=.ok (!b):=by unfold zaG;rw[e];rfl
theorem zlL {f g:Rho→Rs Bool}{ρ:Rho}(e:f ρ=.ok false)(e2:g ρ=.ok false):bOr f g ρ=.ok false:=by unfold bOr;rw[e];exact e2
theorem zjl {i:Nat}{fi:Rho→Rs (List D)}{body rest:Rho→Out}{ρ:Rho}{ds:List D}{o:Out}(I:Rho→Prop)(e:fi ρ=.ok ds)(h:∃ρ',forD i body ds ρ=.nx ρ'∧I ρ')(k:∀ρ',I ρ'→rest ρ'=o):zV (qQ (uz i fi body)) rest ρ=o:=by
 obtain⟨ρ',e1,i1⟩:=h
 exact(zx (vX ((xQ e).trans e1))).trans (k ρ' i1)
theorem zbP {fa:Rho→Rs D}{fl fh:Rho→Rs (Option Int)}{ρ:Rho}{a d:D}{l h:Option Int}(e1:fa ρ=.ok a)(e2:fl ρ=.ok l)(e3:fh ρ=.ok h)(e4:slD a l h=some d):fSl fa fl fh ρ=.ok d:=by
 unfold fSl;rw[e1];show(fl ρ).bind _=_;rw[e2];show(fh ρ).bind _=_;rw[e3];show lf (slD a l h)=_;rw[e4];rfl
theorem v7 {f:Rho→Rs D}{ρ:Rho}{d:D}(e:f ρ=.ok d):vR f ρ=.nx ρ:=by unfold vR;rw[e]
theorem zfJ {n j:Nat}(h:j<n):ixN n (j:Int)=some j:=by
 unfold ixN
 rw[if_pos (by omega),if_pos (by omega)];rfl
theorem zff {B:List (List Nat)}{j:Nat}(h:j<B.length):atI (sT B) (j:Int)=some (.str (B.getD j [])):=by
 unfold atI
 rw[xG,zfJ h]
 simp[sT,h]
def zB (n:Nat):Nat:=if n≤1 then 0 else if n≤2 then 1 else if n≤4 then 2 else if n≤8 then 3 else if n≤16 then 4 else 5
theorem zd1:∀n<33,∀b<6,(2 ^ b<n↔b<zB n):=by decide +kernel
theorem jX (n:Nat):zB n≤5:=by unfold zB;(repeat' split) <;>omega
theorem zgv {n:Nat}(h:n≤32):∀(j b f:Nat),zB n - b=j→b≤zB n→j<f →
  whD (bT (f2 ltI (fNm 2) (fNm 0))) (zV (yL 1 (f2 v5 (fNm 1) (fC (.int 1)))) (yL 2 (f2 zcB (fNm 2) (fC (.int 2))))) f [.fz (.int n),.fz (.int (b:Int)),.fz (.int ((2 ^ b:Nat):Int))]=.nx [.fz (.int n),.fz (.int ((zB n:Nat):Int)),.fz (.int ((2 ^ zB n:Nat):Int))]:=by
 intro j
 induction j with
 | zero =>
  intro b f hj hb hf
  have eb:b=zB n:=by omega
  subst eb
  obtain⟨f,rfl⟩:∃g,f=g+1:=⟨f - 1,by omega⟩
  have hb5:=jX n
  have et:bT (f2 ltI (fNm 2) (fNm 0)) [.fz (.int n),.fz (.int ((zB n:Nat):Int)),.fz (.int ((2 ^ zB n:Nat):Int))]=.ok false:=by
   have:¬2 ^ zB n<n:=fun z=>by have:=(zd1 n (by omega) (zB n) (by omega)).mp z;omega
   refine xH (yc (a:=.int ((2 ^ zB n:Nat):Int)) (b:=.int (n:Int)) rfl rfl ?_)
   show some (D.bl (decide (((2 ^ zB n:Nat):Int)<(n:Int))))=_
   rw[decide_eq_false (by omega)]
  unfold whD
  rw[et]
 | succ j ih =>
  intro b f hj hb hf
  obtain⟨f,rfl⟩:∃g,f=g+1:=⟨f - 1,by omega⟩
  have hb5:=jX n
  have hlt:2 ^ b<n:=(zd1 n (by omega) b (by omega)).mpr (by omega)
  have et:bT (f2 ltI (fNm 2) (fNm 0)) [.fz (.int n),.fz (.int (b:Int)),.fz (.int ((2 ^ b:Nat):Int))]=.ok true:=by
   refine xH (yc (a:=.int ((2 ^ b:Nat):Int)) (b:=.int (n:Int)) rfl rfl ?_)
   show some (D.bl (decide (((2 ^ b:Nat):Int)<(n:Int))))=_
   rw[decide_eq_true (by omega)]
  have hp:2 ^ (b+1)=2 ^ b*2:=Nat.pow_succ ..
  have es:(zV (yL 1 (f2 v5 (fNm 1) (fC (.int 1)))) (yL 2 (f2 zcB (fNm 2) (fC (.int 2))))) [.fz (.int n),.fz (.int (b:Int)),.fz (.int ((2 ^ b:Nat):Int))]=.nx [.fz (.int n),.fz (.int ((b+1:Nat):Int)),.fz (.int ((2 ^ (b+1):Nat):Int))]:=by
   refine(zx (zH (vp rfl rfl))).trans ?_
   refine(zH (uU (i:=((2 ^ b:Nat):Int)) (j:=2) rfl rfl (vQ (by omega)) (vQ (by omega)))).trans ?_
   have:((2 ^ b:Nat):Int)*2=((2 ^ (b+1):Nat):Int):=by omega
   rw[this];rfl
  unfold whD
  rw[et]
  show(match (zV (yL 1 (f2 v5 (fNm 1) (fC (.int 1)))) (yL 2 (f2 zcB (fNm 2) (fC (.int 2))))) [.fz (.int n),.fz (.int (b:Int)),.fz (.int ((2 ^ b:Nat):Int))] with | .nx ρ'=>_ | .ct ρ'=>_ | .bk ρ'=>_|o=>o)=_
  rw[es]
  exact ih (b+1) f (by omega) (by omega) (by omega)
theorem jn {n:Nat}(h:n≤32):ql [.int n]=.ok (.int ((zB n:Nat):Int)):=by
 have hb5:=jX n
 have:=zgv h (zB n) 0 64 rfl (Nat.zero_le _) (by omega)
 refine yq ?_
 refine(zx (zH (d:=.int 0) rfl)).trans ((zx (zH (d:=.int 1) rfl)).trans ((zx (vX this)).trans rfl))
def jx (i:Nat):Nat→List Nat
 | 0=>[]
 | k+1=>(48+i / 2 ^ k % 2)::jx i k
theorem zaH (i:Nat):∀b,(jx i b).length=b
 | 0=>rfl
 | b+1=>by show(jx i b).length+1=_;rw[zaH i b]
theorem zef {i b:Nat}(hi:i≤1000)(hb:b≤1000):qC [.int i,.int b]=.ok (.str (jx i b)):=by
 refine yq ?_
 refine(zx (ρ':=[.fz (.int i),.fz (.int b),.fz (.str []),.no]) (zH (d:=.str []) rfl)).trans ?_
 refine zjl (fun ρ=>∃s,ρ=[.fz (.int ((i / 2 ^ b:Nat):Int)),.fz (.int b),.fz (.str (jx i b)),s]) (jc (ds:=[.int (b:Int)]) rfl (xU (by omega))) ?_ (fun ρ ⟨s,e⟩=>by subst e;rfl)
 have:=xq (i:=3) (g:=zV (yL 2 (f2 q9 (fO zkx (zb (f2 zcS (fNm 0) (fC (.int 2))) zA)) (fNm 2))) (yL 0 (f2 zav (fNm 0) (fC (.int 2))))) (l:=List.range b) (enc:=fun(k:Nat)=>D.int (k:Int)) (ρ:=[.fz (.int i),.fz (.int b),.fz (.str []),.no])
  (fun k ρ=>∃s,ρ=[.fz (.int ((i / 2 ^ k:Nat):Int)),.fz (.int b),.fz (.str (jx i k)),s]) ⟨.no,by simp[jx]⟩ (fun k c ρ hc ⟨s,e⟩=>by
   subst e
   have hk:k<b:=by have:=(List.getElem?_eq_some_iff.mp hc).1;simpa using this
   have hle:i / 2 ^ k≤i:=Nat.div_le_self _ _
   have e1:f2 zcS (fNm 0) (fC (.int 2)) [.fz (.int ((i / 2 ^ k:Nat):Int)),.fz (.int b),.fz (.str (jx i k)),.fz (.int (c:Int))]=.ok (.int (((i / 2 ^ k % 2:Nat)):Int)):=by
    refine(uR (i:=((i / 2 ^ k:Nat):Int)) (j:=2) rfl rfl (by decide)).trans ?_
    have:(((i / 2 ^ k:Nat):Int)) % 2=((i / 2 ^ k % 2:Nat):Int):=by omega
    rw[this]
   have hm2:i / 2 ^ k % 2<2:=Nat.mod_lt _ (by decide)
   have e2:zkx [.int (((i / 2 ^ k % 2:Nat)):Int)]=some (.str [48+i / 2 ^ k % 2]):=by
    dsimp only [zkx]
    rw[if_pos (by omega)];rfl
   have e3:f2 zav (fNm 0) (fC (.int 2)) [.fz (.int ((i / 2 ^ k:Nat):Int)),.fz (.int b),.fz (.str (jx i (k+1))),.fz (.int (c:Int))]=.ok (.int ((i / 2 ^ (k+1):Nat):Int)):=by
    refine(kJ (i:=((i / 2 ^ k:Nat):Int)) (j:=2) rfl rfl (by decide) (vQ (by omega))).trans ?_
    have h1:i / 2 ^ (k+1)=i / 2 ^ k / 2:=by rw[Nat.pow_succ,Nat.div_div_eq_div_mul]
    have:(((i / 2 ^ k:Nat):Int)) / 2=((i / 2 ^ k / 2:Nat):Int):=by omega
    rw[h1,this]
   refine⟨_,(zx (ρ':=[.fz (.int ((i / 2 ^ k:Nat):Int)),.fz (.int b),.fz (.str (jx i (k+1))),.fz (.int (c:Int))]) (zH (d:=.str (jx i (k+1))) (yc (a:=.str [48+i / 2 ^ k % 2]) (b:=.str (jx i k)) (zao (zJ e1 rfl) e2) rfl (qt (by rw[zaH];show 1+k≤_;omega))))).trans (zH e3),.fz (.int (c:Int)),rfl⟩)
 rw[List.length_range] at this
 exact this
def W (n:Nat):List (List Nat):=(List.range n).map fun i=>jx i (zB n)
theorem jP (n:Nat):(W n).length=n:=by simp[W]
theorem zdx {n:Nat}{w:List Nat}(h:w∈W n):w.length=zB n:=by
 obtain⟨i,_,rfl⟩:=List.mem_map.mp h
 exact zaH i _
theorem zmX:∀n<33,(W n).Pairwise (· < ·):=by decide +kernel
theorem qe {B:List (List Nat)}(h:B.length≤32):vB [.tup (sT B)]=.ok (.lst (sT (W B.length))):=by
 have hb5:=jX B.length
 have el:fO vd (zb (fNm 0) zA) [.fz (.tup (sT B)),.no]=.ok (.int (B.length:Int)):=by
  show Rs.ok (D.int ((sT B).length:Int))=_;rw[xG]
 refine yq ((zx (ρ':=[.fz (.tup (sT B)),.fz (.int ((zB B.length:Nat):Int))]) (zH ((fA1 el).trans (jn h)))).trans (xj ?_))
 have el2:fO vd (zb (fNm 0) zA) [.fz (.tup (sT B)),.fz (.int ((zB B.length:Nat):Int))]=.ok (.int (B.length:Int)):=by
  show Rs.ok (D.int ((sT B).length:Int))=_;rw[xG]
 refine vL (jc (zJ el2 rfl) (xU (by omega))) (by rw[List.length_map,List.length_range];omega) ?_
 have:=yR (fe:=fA (ari 2 qC) (zb (fNm 0) (zb (fNm 1) zA))) (ρ0:=[.no,.fz (.int ((zB B.length:Nat):Int))]) (l:=List.range B.length) (enc:=fun(k:Nat)=>D.int (k:Int)) (fun i=>.str (jx i (zB B.length))) fun i hi=>(fA2 (a:=.int (i:Int)) (b:=.int ((zB B.length:Nat):Int)) rfl rfl).trans (zef (by have:=List.mem_range.mp hi;omega) (by omega))
 unfold sT W
 rw[List.map_map]
 exact this
end Pg
namespace Pg
open PySem L2 My
theorem zeC {L:List (List Nat)}(s:L.Pairwise (· < ·)){j:Nat}(h:j<L.length):L.idxOf L[j]=j:=by
 have h1:=List.idxOf_lt_length_of_mem (List.getElem_mem h)
 have h2:L[L.idxOf L[j]]=L[j]:=List.getElem_idxOf h1
 rcases Nat.lt_trichotomy (L.idxOf L[j]) j with z|z|z
 ·have:=List.pairwise_iff_getElem.mp s _ _ h1 h z
  rw[h2] at this
  exact absurd this (List.lt_irrefl _)
 ·exact z
 ·have:=List.pairwise_iff_getElem.mp s _ _ h h1 z
  rw[h2] at this
  exact absurd this (List.lt_irrefl _)
def wd (B:List (List Nat))(p:List Nat):List Nat:=(W B.length).getD (B.idxOf p) []
theorem zhc {B:List (List Nat)}{p:List Nat}(h:p∈B):wd B p∈W B.length:=by
 have h1:=List.idxOf_lt_length_of_mem h
 have h2:B.idxOf p<(W B.length).length:=by rw[jP];exact h1
 unfold wd
 rw[List.getD_eq_getElem?_getD,List.getElem?_eq_getElem h2]
 exact List.getElem_mem h2
theorem zlI {B:List (List Nat)}{p:List Nat}(hl:B.length≤32)(h:p∈B):(W B.length).idxOf (wd B p)=B.idxOf p:=by
 have h1:=List.idxOf_lt_length_of_mem h
 have h2:B.idxOf p<(W B.length).length:=by rw[jP];exact h1
 have e:wd B p=(W B.length)[B.idxOf p]:=by
  unfold wd
  rw[List.getD_eq_getElem?_getD,List.getElem?_eq_getElem h2];rfl
 rw[e]
 exact zeC (zmX _ (by omega)) h2
theorem zco {B:List (List Nat)}{p:List Nat}(h:p∈B):wM [.tup (sT B),.str p]=.ok .non:=by
 refine zeb (ifF (xH ?_))
 refine yc (a:=.str p) (b:=.tup (sT B)) rfl rfl ?_
 show inQ true (.str p) (sT B)=_
 rw[zfB,decide_eq_true h];rfl
theorem jW {m:Nat}{B:List (List Nat)}(hp:Pcs m B)(hb:isBook m B=true){p:List Nat}(h:p∈B):wF [.int m,.tup (sT B),.str p]=.ok (.str (wd B p)):=by
 have hl:=hp.2.2.2.1
 have h1:=List.idxOf_lt_length_of_mem h
 refine yq ((zx (v7 ((fA2 (a:=.int m) (b:=.tup (sT B)) rfl rfl).trans (wg hp hb)))).trans ((zx (v7 ((fA2 (a:=.tup (sT B)) (b:=.str p) rfl rfl).trans (zco h)))).trans (xj ?_)))
 ·refine yc (a:=.lst (sT (W B.length))) (b:=.int ((B.idxOf p:Nat):Int)) ((fA1 (a:=.tup (sT B)) rfl).trans (qe hl)) (zho (a:=.tup (sT B)) (b:=.str p) rfl rfl rfl ?_) ?_
  ·dsimp only [zgc]
   rw[j8,if_pos ⟨j5 B,by rw[xG];omega,h⟩]
  ·exact zff (by rw[jP];exact h1)
theorem zhH {ds:List (List Nat×D)}{k:List Nat}{v:D}(h:∀kv∈ds,kv.1≠k):putD ds k v=ds++[(k,v)]:=by
 unfold putD
 rw[if_neg]
 intro z
 obtain⟨kv,hm,e⟩:=List.any_eq_true.mp z
 exact h kv hm (of_decide_eq_true e)
theorem zj4 {ks:List (List Nat)}{ds:List D}(s:ks.Pairwise (· < ·))(hl:ks.length=ds.length):zkw ks ds=ks.zip ds:=by
 have key:∀n,n≤ks.length→(List.range n).foldl (fun m j=>putD m (ks.getD j []) (ds.getD j .non)) []=(ks.zip ds).take n:=by
  intro n
  induction n with
  | zero=>intro _;rfl
  | succ n ih =>
   intro hn
   have h1:n<ks.length:=by omega
   have h2:n<ds.length:=by omega
   have h3:n<(ks.zip ds).length:=by rw[List.length_zip];omega
   rw[List.range_succ,List.foldl_append,ih (by omega)]
   show putD ((ks.zip ds).take n) (ks.getD n []) (ds.getD n .non)=_
   have e1:ks.getD n []=ks[n]:=by rw[List.getD_eq_getElem?_getD,List.getElem?_eq_getElem h1];rfl
   have e2:ds.getD n .non=ds[n]:=by rw[List.getD_eq_getElem?_getD,List.getElem?_eq_getElem h2];rfl
   rw[e1,e2,zhH,List.take_add_one,List.getElem?_eq_getElem h3,List.getElem_zip];rfl
   intro kv hkv z
   obtain⟨i,hi,e⟩:=List.mem_iff_getElem.mp hkv
   rw[List.length_take] at hi
   rw[List.getElem_take,List.getElem_zip] at e
   subst e
   have:=List.pairwise_iff_getElem.mp s i n (by omega) h1 (by omega)
   dsimp only at z
   rw[z] at this
   exact List.lt_irrefl _ this
 unfold zkw
 rw[← hl,Nat.min_self,key _ (Nat.le_refl _),List.take_of_length_le (by rw[List.length_zip];omega)]
theorem zen:∀(ks:List (List Nat)) (ds:List D) {k:List Nat},k∈ks→ks.length=ds.length→za1 (ks.zip ds) k=ds[ks.idxOf k]?
 | [],_,_,h,_=>by simp at h
 | _::_,[],_,_,h=>by simp at h
 | a :: ks,d::ds,k,h,hl=>by
  by_cases e:a=k
  ·subst e
   simp[za1]
  ·have hk:k∈ks:=by
    rcases List.mem_cons.mp h with z|z
    ·exact absurd z.symm e
    ·exact z
   have ih:=zen ks ds hk (by simpa using hl)
   have e2:(a::ks).idxOf k=ks.idxOf k+1:=by rw[List.idxOf_cons,beq_eq_false_iff_ne.mpr e];rfl
   rw[e2]
   show _=ds[ks.idxOf k]?
   rw[← ih]
   simp[za1,e]
theorem zeF {B:List (List Nat)}(hl:B.length≤32):zfp (.lst (sT (W B.length))) (.tup (sT B))=some (.dct ((W B.length).zip (sT B))):=by
 have:zfp (.lst (sT (W B.length))) (.tup (sT B))=if (sT (W B.length)).all isS=true∧(sT (W B.length)).length≤1000 then some (.dct (zkw ((sT (W B.length)).map unS) (sT B))) else none:=rfl
 rw[this,if_pos ⟨j5 _,by rw[xG,jP];omega⟩,j8,zj4 (zmX _ (by omega)) (by rw[xG,jP])]
theorem zb2 {B:List (List Nat)}(hl:B.length≤32){p:List Nat}(h:p∈B):za1 ((W B.length).zip (sT B)) (wd B p)=some (.str p):=by
 have h1:=List.idxOf_lt_length_of_mem h
 rw[zen _ _ (zhc h) (by rw[xG,jP]),zlI hl h]
 unfold sT
 rw[List.getElem?_map,List.getElem?_eq_getElem h1,List.getElem_idxOf h1];rfl
theorem ziY (ws:List (List Nat))(b:Nat)(h:∀w∈ws,w.length=b):∀i (hi:i<ws.length),zap ws.flatten (some ((i*b:Nat):Int)) (some ((i*b+b:Nat):Int))=ws[i]:=by
 have key:∀(ws:List (List Nat)) (i:Nat),(∀w∈ws,w.length=b)→(hi:i<ws.length)→(ws.flatten.drop (i*b)).take b=ws[i]:=by
  intro ws
  induction ws with
  | nil=>intro i _ hi;simp at hi
  | cons w ws ih =>
   intro i h hi
   have hw:=h w (.head _)
   cases i with
   | zero =>
    rw[Nat.zero_mul,List.drop_zero,List.flatten_cons]
    show(w++ws.flatten).take b=w
    rw[List.take_append_of_le_length (by omega),List.take_of_length_le (by omega)]
   | succ i =>
    rw[List.flatten_cons,Nat.succ_mul,List.drop_append,List.drop_of_length_le (by omega),List.nil_append]
    have:i*b+b - w.length=i*b:=by omega
    rw[this]
    exact ih i (fun w hw=>h w (.tail _ hw)) (by simpa using hi)
 intro i hi
 have hlen:ws.flatten.length=ws.length*b:=by
  clear key hi
  induction ws with
  | nil=>simp
  | cons w ws ih=>rw[List.flatten_cons,List.length_append,ih fun w hw=>h w (.tail _ hw),h w (.head _),List.length_cons,Nat.succ_mul];omega
 have h1:(i+1)*b≤ws.length*b:=Nat.mul_le_mul_right b hi
 rw[Nat.succ_mul] at h1
 unfold zap
 have h0:i*b≤ws.length*b:=by omega
 rw[HT.sIx_nat,HT.sIx_nat,hlen,Nat.min_eq_left h0,Nat.min_eq_left h1]
 have:i*b+b - i*b=b:=by omega
 rw[this]
 exact key ws i h hi
theorem zbu {B:List (List Nat)}(h2:2≤B.length)(h32:B.length≤32){ws:List (List Nat)}(h:∀w∈ws,w.length=zB B.length)(hl:ws.length≤1000):wK [.tup (sT B),.str ws.flatten]=.ok (.lst (sT ws)):=by
 have hb5:=jX B.length
 have hb1:1≤zB B.length:=by unfold zB;(repeat' split) <;>omega
 have hlen:ws.flatten.length=ws.length*zB B.length:=by
  clear hl
  induction ws with
  | nil=>simp
  | cons w ws ih=>rw[List.flatten_cons,List.length_append,ih fun w hw=>h w (.tail _ hw),h w (.head _),List.length_cons,Nat.succ_mul];omega
 have hmul:ws.length*zB B.length≤1000*5:=Nat.mul_le_mul hl hb5
 have hcut:=ziY ws (zB B.length) h
 have hbits:=jn h32
 generalize hbb:zB B.length=b at *
 have el:fO vd (zb (fNm 0) zA) [.fz (.tup (sT B)),.fz (.str ws.flatten),.no]=.ok (.int (B.length:Int)):=by
  show Rs.ok (D.int ((sT B).length:Int))=_;rw[xG]
 refine yq ((zx (ρ':=[.fz (.tup (sT B)),.fz (.str ws.flatten),.fz (.int (b:Int))]) (zH ((fA1 el).trans hbits))).trans ((zx (ifF (zlL (jo (b:=true) (xH rfl)) (xH ?_)))).trans (xj ?_)))
 ·refine yc (a:=.int 0) (b:=.int 0) ((uR (i:=(ws.flatten.length:Int)) (j:=(b:Int)) rfl rfl (by omega)).trans ?_) rfl ?_
  ·rw[hlen]
   have:(((ws.length*b:Nat):Int)) % (b:Int)=0:=by rw[Int.natCast_mul];exact Int.mul_emod_left _ _
   rw[this]
  ·rfl
 ·have er:zhm [.int 0,.int (ws.flatten.length:Int),.int (b:Int)]=some ((List.range ws.length).map fun(k:Nat)=>.int (0+(k:Int)*(b:Int))):=by
   dsimp only [zhm]
   rw[if_pos (by omega)]
   have:(((ws.flatten.length:Int)) - 0+(b:Int) - 1) / (b:Int)=(ws.length:Int):=by
    rw[hlen,Int.natCast_mul]
    have e1:(ws.length:Int)*(b:Int) - 0+(b:Int) - 1=((b:Int) - 1)+(ws.length:Int)*(b:Int):=by omega
    rw[e1,Int.add_mul_ediv_right _ _ (by omega),Int.ediv_eq_zero_of_lt (by omega) (by omega)]
    omega
   rw[this];rfl
  refine vL (ds:=(List.range ws.length).map fun(k:Nat)=>.int (0+(k:Int)*(b:Int))) (jc (ds:=[.int 0,.int (ws.flatten.length:Int),.int (b:Int)]) rfl er) (by rw[List.length_map,List.length_range];omega) ?_
  have:=yR (fe:=fSl (fNm 1) (zY (fNm 0)) (zY (f2 v5 (fNm 0) (fNm 2)))) (ρ0:=[.no,.fz (.str ws.flatten),.fz (.int (b:Int))]) (l:=List.range ws.length) (enc:=fun(k:Nat)=>D.int (0+(k:Int)*(b:Int))) (fun i=>.str (ws.getD i [])) fun i hi=>by
   have hi':=List.mem_range.mp hi
   have e1:(0+(i:Int)*(b:Int))=((i*b:Nat):Int):=by rw[Int.natCast_mul];omega
   have e2:(0+(i:Int)*(b:Int))+(b:Int)=((i*b+b:Nat):Int):=by rw[Int.natCast_add,Int.natCast_mul];omega
   refine zbP (a:=.str ws.flatten) (l:=some (0+(i:Int)*(b:Int))) (h:=some ((0+(i:Int)*(b:Int))+(b:Int))) rfl rfl rfl ?_
   show some (D.str (zap ws.flatten (some (0+(i:Int)*(b:Int))) (some ((0+(i:Int)*(b:Int))+(b:Int)))))=_
   rw[e2,e1,hcut i hi',List.getD_eq_getElem?_getD,List.getElem?_eq_getElem hi'];rfl
  have e3:sT ws=(List.range ws.length).map fun i=>.str (ws.getD i []):=by
   refine List.ext_getElem (by simp[sT]) fun j h1 h2=>?_
   have hj:j<ws.length:=by rw[xG] at h1;exact h1
   simp[sT,hj]
  rw[e3];exact this
end Pg
namespace Pg
open PySem L2 My
theorem zju (neg:Bool)(i j:Int):eqD neg (.int i) (.int j)=some (.bl (if neg then !decide (i=j) else decide (i=j))):=by
 unfold eqD
 rw[if_pos ⟨rfl,rfl,by show(PyData.int _).depth≤60;simp[PyData.depth]⟩]
 have:PyData.eqv (D.int i).py (D.int j).py=decide (i=j):=by
  show(i == j)=_
  by_cases h:i=j <;>simp[h]
 rw[this]
end Pg
namespace Pg
open PySem L2 My
def qF (ws:List Int)(a:Int):Int×Int:=low a (ws.sum ^ 8)
theorem getD_some {B:List (List Nat)}{j:Nat}(hj:j<B.length):B[j]? = some (B.getD j []):=by
 rw[List.getD_eq_getElem?_getD,List.getElem?_eq_getElem hj];rfl
section
variable {ws:List Int}(h:zlE ws)
include h
end
theorem getD_mem {B:List (List Nat)}{j:Nat}(hj:j<B.length):B.getD j []∈B:=by
 rw[List.getD_eq_getElem?_getD,List.getElem?_eq_getElem hj];exact List.getElem_mem hj
end Pg
namespace My
theorem jF {q p:List Nat}(h:q <+: p)(hn:q≠p):q <+: p.dropLast:=by
 rcases List.eq_nil_or_concat p with rfl|⟨l,c,rfl⟩
 ·exact absurd (List.prefix_nil.mp h) hn
 ·rw[List.concat_eq_append] at h hn ⊢
  rw[List.dropLast_concat]
  rcases List.prefix_concat_iff.mp h with e|e
  ·exact absurd e hn
  ·exact e
theorem zgp {p:List Nat}(h:p≠[]):p.dropLast≠p:=fun e=>by
 have:=congrArg List.length e
 have:=List.length_pos_iff.mpr h
 rw[List.length_dropLast] at *
 omega
theorem Inner.pre {B:List (List Nat)}{x y:List Nat}(h:Inner B y)(p:x <+: y):Inner B x:=by
 obtain⟨q,hq,hy,hn⟩:=h
 refine⟨q,hq,p.trans hy,fun e=>hn ?_⟩
 subst e
 exact hy.eq_of_length (Nat.le_antisymm hy.length_le p.length_le)
theorem Book.inner_not {m:Nat}{B:List (List Nat)}(h:Book m B){x y:List Nat}(hx:Inner B x)(hy:y <+: x):y∉B:=fun hyB=>h.free hx y hy (h.ne y hyB) hyB
theorem Book.mem_iff {m:Nat}{B:List (List Nat)}(h:Book m B){p:List Nat}:p∈B↔p≠[]∧LetOk m p∧Inner B p.dropLast∧¬Inner B p:=by
 constructor
 ·intro hp
  exact⟨h.ne p hp,h.let_ p hp,⟨p,hp,List.dropLast_prefix p,zgp (h.ne p hp)⟩,fun hi=>h.inner_not hi (List.prefix_refl p) hp⟩
 ·rintro ⟨hn,hl,hi,hni⟩
  obtain⟨q,hq,e|e⟩:=h.cv p hl
  ·by_cases eq:q=p
   ·exact eq▸hq
   ·exact absurd hq (h.inner_not hi (jF e eq))
  ·by_cases eq:p=q
   ·exact eq▸hq
   ·exact absurd ⟨q,hq,e,eq⟩ hni
theorem Book.ext {m:Nat}{B C:List (List Nat)}(h:Book m B)(k:Book m C)(e:∀x,Inner B x↔Inner C x):B=C:=by
 have p:B.Perm C:=(List.perm_ext_iff_of_nodup h.nd k.nd).mpr fun p=>by rw[h.mem_iff,k.mem_iff,e,e]
 exact List.Perm.eq_of_pairwise (fun _ _ _ _ h k=>List.le_antisymm h k) h.srt k.srt p
structure Clo (m:Nat)(P:List Nat→Prop):Prop where
 nil:P []
 let_:∀x,P x→LetOk m x
 pre:∀x y,x <+: y→P y→P x
 bd:∃N,∀x,P x→x.length<N
theorem Book.clo {m:Nat}{B:List (List Nat)}(h:Book m B):Clo m (Inner B) where
 nil:=h.nilInner
 let_:=fun x hx=>h.innerLet hx
 pre:=fun x y p hy=>hy.pre p
 bd := by
  have:∃N,∀p∈B,p.length≤N:=by
   clear h
   induction B with
   | nil=>exact⟨0,by simp⟩
   | cons q B ih =>
    obtain⟨N,hN⟩:=ih
    refine⟨max N q.length,fun p hp=>?_⟩
    rcases List.mem_cons.mp hp with rfl|hp
    ·exact Nat.le_max_right _ _
    ·exact Nat.le_trans (hN p hp) (Nat.le_max_left _ _)
  obtain⟨N,hN⟩:=this
  refine⟨N+1,fun x hq39=>?_⟩
  obtain⟨p,hp,hx,_⟩:=hq39
  have:=hN p hp
  have:=hx.length_le
  omega
theorem Book.of {m:Nat}(m2:2≤m)(m4:m≤4){P:List Nat→Prop}(c:Clo m P){L:List (List Nat)}(s:L.Pairwise (·≤·))(n:L.Nodup)(hm:∀p,p∈L↔p≠[]∧LetOk m p∧P p.dropLast∧¬P p):Book m L∧∀x,Inner L x↔P x:=by
 have h97:97∈abcd.take m:=uJ m4 (by omega)
 obtain⟨N,hN⟩:=c.bd
 have up:∀(k:Nat) (x:List Nat),P x→N≤x.length+k→∃q∈L,x <+: q∧x≠q:=by
  intro k
  induction k with
  | zero=>intro x hx hk;have:=hN x hx;omega
  | succ k ih =>
   intro x hx hk
   by_cases hy:P (x++[97])
   ·obtain⟨q,hq,h1,h2⟩:=ih (x++[97]) hy (by simp;omega)
    refine⟨q,hq,(List.prefix_append _ _).trans h1,fun e=>?_⟩
    have:=h1.length_le
    rw[← e,List.length_append,List.length_singleton] at this
    omega
   ·refine⟨x++[97],(hm _).mpr ⟨by simp,(c.let_ x hx).app (LetOk.one h97),?_,hy⟩,List.prefix_append _ _,fun e=>zcq x 97 e.symm⟩
    rw[List.dropLast_concat];exact hx
 have down:∀(k:Nat) (x:List Nat),x.length≤k→LetOk m x→¬P x→∃q∈L,q <+: x:=by
  intro k
  induction k with
  | zero =>
   intro x hk _ hx
   have:x=[]:=List.length_eq_zero_iff.mp (by omega)
   subst this
   exact absurd c.nil hx
  | succ k ih =>
   intro x hk hl hx
   have hne:x≠[]:=fun e=>hx (e▸c.nil)
   by_cases hd:P x.dropLast
   ·exact⟨x,(hm x).mpr ⟨hne,hl,hd,hx⟩,List.prefix_refl x⟩
   ·obtain⟨q,hq,e⟩:=ih x.dropLast (by rw[List.length_dropLast];omega) (hl.pre (List.dropLast_prefix x)) hd
    exact⟨q,hq,e.trans (List.dropLast_prefix x)⟩
 have inn:∀x,Inner L x↔P x:=fun x=>by
  constructor
  ·rintro⟨p,hp,h1,h2⟩
   exact c.pre _ _ (jF h1 h2) ((hm p).mp hp).2.2.1
  ·intro hx
   obtain⟨q,hq,h1,h2⟩:=up N x hx (by omega)
   exact⟨q,hq,h1,h2⟩
 refine⟨⟨m2,m4,fun p hp=>((hm p).mp hp).2.1,fun p hp=>((hm p).mp hp).1,fun p hp q hq h=>?_,fun x hx=>?_,s,n⟩,inn⟩
 ·by_cases e:p=q
  ·exact e
  ·exact absurd (c.pre _ _ (jF h e) ((hm q).mp hq).2.2.1) ((hm p).mp hp).2.2.2
 ·by_cases hP:P x
  ·obtain⟨q,hq,h1,_⟩:=up N x hP (by omega)
   exact⟨q,hq,.inr h1⟩
  ·obtain⟨q,hq,h1⟩:=down x.length x (Nat.le_refl _) hx hP
   exact⟨q,hq,.inl h1⟩
def Head (m:Nat)(B:List (List Nat))(x:List Nat):Prop:=x≠[]∧∀k∈kids m x,k∈B
def zbX (B:List (List Nat))(x:List Nat):List (List Nat):=sortF (B.filter (fun p=>!x.isPrefixOf p)++[x])
theorem Head.inner {m:Nat}{B:List (List Nat)}(h:Book m B){x:List Nat}(hx:Head m B x):Inner B x:=by
 have h97:97∈abcd.take m:=uJ h.m4 (by have:=h.m2;omega)
 exact⟨x++[97],hx.2 _ (kids_mem.mpr ⟨97,h97,rfl⟩),List.prefix_append _ _,fun e=>zcq x 97 e.symm⟩
theorem Head.top {m:Nat}{B:List (List Nat)}(h:Book m B){x y:List Nat}(hx:Head m B x)(hy:Inner B y)(p:x <+: y):y=x:=by
 obtain⟨r,rfl⟩:=p
 cases r with
 | nil=>simp
 | cons c r =>
  have hc:=h.innerLet hy c (by simp)
  exact absurd (hx.2 _ (kids_mem.mpr ⟨c,uJ h.m4 hc,rfl⟩)) (h.inner_not hy ⟨r,by simp⟩)
theorem Book.join {m:Nat}{B:List (List Nat)}(h:Book m B){x:List Nat}(hx:Head m B x):Book m (zbX B x)∧∀y,Inner (zbX B x) y↔Inner B y∧y≠x:=by
 have hi:=hx.inner h
 have hxB:x∉B:=h.inner_not hi (List.prefix_refl x)
 refine Book.of h.m2 h.m4 (P:=fun y=>Inner B y∧y≠x) ⟨⟨h.nilInner,fun e=>hx.1 e.symm⟩,fun y hy=>h.innerLet hy.1,fun y z p hz=>⟨hz.1.pre p,fun e=>hz.2 (hx.top h hz.1 (e▸p))⟩,?_⟩ (zaP _) ?_ fun p=>?_
 ·obtain⟨N,hN⟩:=h.clo.bd
  exact⟨N,fun y hy=>hN y hy.1⟩
 ·refine(ud _).nodup_iff.mpr (List.nodup_append.mpr ⟨h.nd.filter _,by simp,fun a ha b hb e=>?_⟩)
  rw[List.mem_singleton.mp hb] at e
  subst e
  exact hxB (List.mem_filter.mp ha).1
 ·unfold zbX
  rw[sortF_mem,List.mem_append,List.mem_filter,List.mem_singleton]
  have nb:(!x.isPrefixOf p)=true↔¬x <+: p:=by rw[Bool.not_eq_true',← Bool.not_eq_true,List.isPrefixOf_iff_prefix]
  rw[nb]
  constructor
  ·rintro (⟨hp,hnp⟩|rfl)
   ·obtain⟨a,b,c,d⟩:=h.mem_iff.mp hp
    exact⟨a,b,⟨c,fun e=>hnp (e▸List.dropLast_prefix p)⟩,fun e=>d e.1⟩
   ·exact⟨hx.1,h.innerLet hi,⟨hi.pre (List.dropLast_prefix _),zgp hx.1⟩,fun e=>e.2 rfl⟩
  ·rintro ⟨a,b,⟨c,c'⟩,d⟩
   by_cases e:p=x
   ·exact .inr e
   ·have hp:p∈B:=h.mem_iff.mpr ⟨a,b,c,fun z=>d ⟨z,e⟩⟩
    exact .inl ⟨hp,fun z=>c' (hx.top h c (jF z fun z'=>e z'.symm))⟩
theorem Book.partAt {m:Nat}{B:List (List Nat)}(h:Book m B){p:List Nat}(hp:p∈B):Book m (My.part m B (B.idxOf p))∧∀x,Inner (My.part m B (B.idxOf p)) x↔Inner B x∨x=p:=by
 have hj:B.idxOf p<B.length:=List.idxOf_lt_length_iff.mpr hp
 refine⟨h.part hj,fun x=>?_⟩
 rw[za9 h.m2 h.m4 h hj]
 have:B.getD (B.idxOf p) []=p:=by rw[List.getD_eq_getElem?_getD,List.getElem?_eq_getElem hj];exact List.getElem_idxOf hj
 rw[this]
theorem Book.head_mem {m:Nat}{B:List (List Nat)}(h:Book m B){x:List Nat}(hx:Head m B x):x∈zbX B x:=by
 unfold zbX;rw[sortF_mem];simp
theorem Book.join_part {m:Nat}{B:List (List Nat)}(h:Book m B){x:List Nat}(hx:Head m B x):My.part m (zbX B x) ((zbX B x).idxOf x)=B:=by
 obtain⟨hb,hi⟩:=h.join hx
 obtain⟨kb,ki⟩:=hb.partAt (h.head_mem hx)
 refine kb.ext h fun y=>?_
 rw[ki,hi]
 constructor
 ·rintro(⟨a,_⟩|rfl)
  ·exact a
  ·exact hx.inner h
 ·intro a
  by_cases e:y=x
  ·exact .inr e
  ·exact .inl ⟨a,e⟩
theorem ze7 {m:Nat}(m2:2≤m)(m4:m≤4)(x:List Nat):Inner (kids m []) x↔x=[]:=by
 constructor
 ·rintro⟨p,hp,hx,hn⟩
  obtain⟨c,_,rfl⟩:=kids_mem.mp hp
  rcases List.prefix_concat_iff.mp hx with e|e
  ·exact absurd e hn
  ·exact List.prefix_nil.mp e
 ·rintro rfl
  exact(Book.letters m2 m4).nilInner
theorem longest (L:List (List Nat))(P:List Nat→Prop) [DecidablePred P](h:∃x∈L,P x):∃x∈L,P x∧∀y∈L,P y→y.length≤x.length:=by
 induction L with
 | nil=>obtain⟨x,hx,_⟩:=h;cases hx
 | cons a L ih =>
  by_cases hL:∃x∈L,P x
  ·obtain ⟨x,hx,px,mx⟩:=ih hL
   by_cases ha:P a∧x.length≤a.length
   ·refine⟨a,.head _,ha.1,fun y hy py=>?_⟩
    rcases List.mem_cons.mp hy with rfl|hy
    ·exact Nat.le_refl _
    ·exact Nat.le_trans (mx y hy py) ha.2
   ·refine ⟨x,.tail _ hx,px,fun y hy py=>?_⟩
    rcases List.mem_cons.mp hy with rfl|hy
    ·have:¬x.length≤y.length:=fun z=>ha ⟨py,z⟩
     omega
    ·exact mx y hy py
  ·obtain ⟨x,hx,px⟩:=h
   rcases List.mem_cons.mp hx with rfl|hx
   ·refine⟨x,.head _,px,fun y hy py=>?_⟩
    rcases List.mem_cons.mp hy with rfl|hy
    ·exact Nat.le_refl _
    ·exact absurd ⟨y,hy,py⟩ hL
   ·exact absurd ⟨x,hx,px⟩ hL
theorem Book.hasHead {m:Nat}{B:List (List Nat)}(h:Book m B)(hx:∃x,Inner B x∧x≠[]):∃x,Head m B x:=by
 obtain⟨x0,h0,h1⟩:=hx
 obtain⟨x,hxk,hxn,hmax⟩:=longest (yu B) (fun x=>x≠[]) ⟨x0,innerKeys_mem.mpr h0,h1⟩
 refine⟨x,hxn,fun k hk=>?_⟩
 obtain⟨c,hc,rfl⟩:=kids_mem.mp hk
 rcases h.step (innerKeys_mem.mp hxk) hc with⟨a,_⟩|⟨_,a⟩
 ·have:=hmax _ (innerKeys_mem.mpr a) (by simp)
  rw[List.length_append,List.length_singleton] at this
  omega
 ·exact a
theorem zgq {m:Nat}{B:List (List Nat)}(h:Book m B){x:List Nat}(hx:Head m B x):(yu (zbX B x)).length+1≤(yu B).length:=by
 obtain⟨hb,hi⟩:=h.join hx
 have:(x::yu (zbX B x)).length≤(yu B).length:=by
  refine List.Nodup.length_le_of_subset (List.nodup_cons.mpr ⟨fun z=>((hi x).mp (innerKeys_mem.mp z)).2 rfl,uH _⟩) fun y hy=>?_
  rcases List.mem_cons.mp hy with rfl|hy
  ·exact innerKeys_mem.mpr (hx.inner h)
  ·exact innerKeys_mem.mpr ((hi y).mp (innerKeys_mem.mp hy)).1
 simpa using this
theorem Book.gr {m:Nat}:∀(n:Nat) {B:List (List Nat)},Book m B→(yu B).length≤n→∃t,Gr m t B:=by
 intro n
 induction n with
 | zero =>
  intro B h hn
  have:[]∈yu B:=innerKeys_mem.mpr h.nilInner
  rw[List.length_eq_zero_iff.mp (Nat.le_zero.mp hn)] at this
  cases this
 | succ n ih =>
  intro B h hn
  by_cases hx:∃x,Inner B x∧x≠[]
  ·obtain⟨x,hx⟩:=h.hasHead hx
   obtain⟨t,g⟩:=ih (h.join hx).1 (by have:=zgq h hx;omega)
   refine⟨t+1,?_⟩
   have:=Gr.s g (List.idxOf_lt_length_iff.mpr (h.head_mem hx))
   rwa [h.join_part hx] at this
  ·refine ⟨0,?_⟩
   have e:B=kids m []:=h.ext (Book.letters h.m2 h.m4) fun x=>by
    rw[ze7 h.m2 h.m4]
    constructor
    ·intro hi
     by_cases e:x=[]
     ·exact e
     ·exact absurd ⟨x,hi,e⟩ hx
    ·rintro rfl;exact h.nilInner
   rw[e];exact Gr.z
theorem Book.grAt {m:Nat}{B:List (List Nat)}(h:Book m B):∃t,Gr m t B∧(yu B).length=t+1∧B.length=m+t*(m - 1):=by
 obtain⟨t,g⟩:=Book.gr _ h (Nat.le_refl _)
 exact⟨t,g,g.keysEq h.m2 h.m4,g.len h.m2 h.m4⟩
end My
namespace My
theorem zcO:∀{ps:List (List Nat)},rising ps=true→ps.Pairwise (· < ·)
 | [],_=>.nil
 | [a],_=>List.pairwise_singleton _ _
 | a::b::l,h=>by
  have h':decide (a<b)=true∧rising (b::l)=true:=by
   unfold rising at h ⊢
   simpa using h
  have ih:=zcO h'.2
  refine List.pairwise_cons.mpr ⟨fun x hx=>?_,ih⟩
  rcases List.mem_cons.mp hx with rfl|hx
  ·exact of_decide_eq_true h'.1
  ·exact List.lt_trans (of_decide_eq_true h'.1) ((List.pairwise_cons.mp ih).1 x hx)
theorem zgi:∀(p:List Nat) (c:Nat) (r:List Nat),p<p++c::r
 | [],c,r=>List.nil_lt_cons c r
 | a::p,c,r=>List.cons_lt_cons_iff.mpr (.inr ⟨rfl,zgi p c r⟩)
theorem zmE {ps:List (List Nat)}(s:ps.Pairwise (· < ·))(h:wY ps=none):∀p∈ps,∀q∈ps,p <+: q→p=q:=by
 intro p hp q hq e
 obtain⟨r,rfl⟩:=e
 cases r with
 | nil=>simp
 | cons c r =>
  exfalso
  obtain⟨z,hz,h1,h2⟩:=zgX s hp hq (zgi p c r)
  have e:=zaR p z (c::r) (List.le_of_lt h1) h2
  have:=List.find?_eq_none.mp h _ hz
  exact this (List.isPrefixOf_iff_prefix.mpr e)
theorem zkR {m:Nat}(m4:m≤4){ps:List (List Nat)}:∀(n:Nat) (xs:List (List Nat)),fta m ps n xs=none→∀x∈xs,∀r:List Nat,LetOk m r→r≠[]→(∀s,s <+: r→s≠r→s≠[]→isInner ps (x++s)=true)→r.length≤n→xO ps (x++r)=false:=by
 intro n
 induction n with
 | zero=>intro xs _ x _ r _ hr _ hl;exact absurd (List.length_eq_zero_iff.mp (Nat.le_zero.mp hl)) hr
 | succ n ih =>
  intro xs h x hx r hl hr hs hlen
  unfold fta at h
  rw[if_neg (fun e=>by rw[e] at hx;cases hx)] at h
  cases r with
  | nil=>exact absurd rfl hr
  | cons c r =>
   have hy:x++[c]∈zT m xs:=zha hx (uJ m4 (hl c (.head _)))
   split at h
   ·cases h
   ·rename_i hf
    have ha:xO ps (x++[c])=false:=by
     have:=List.find?_eq_none.mp hf _ hy
     simpa using this
    cases r with
    | nil=>exact ha
    | cons d r =>
     have hi:isInner ps (x++[c])=true:=hs [c] ⟨d::r,rfl⟩ (by simp) (by simp)
     have:=ih _ h (x++[c]) (List.mem_filter.mpr ⟨hy,hi⟩) (d::r) (fun z hz=>hl z (.tail _ hz)) (by simp) (fun s hs1 hs2 hs3=>by
      have:=hs (c::s) (List.cons_prefix_cons.mpr ⟨rfl,hs1⟩) (fun e=>hs2 (List.cons.inj e).2) (by simp)
      rw[List.append_assoc];exact this) (by simp only[List.length_cons] at hlen ⊢;omega)
     rw[List.append_assoc] at this
     exact this
theorem zfq {m:Nat}(m4:m≤4){ps:List (List Nat)}(h8:∀p∈ps,p.length≤8)(hne:ps≠[])(hn:∀p∈ps,p≠[])(h:vP m ps=none):∀x,LetOk m x→∃p∈ps,p <+: x∨x <+: p:=by
 intro x hx
 have key:∀k,k≤x.length→Inner ps (x.take k)∨∃p∈ps,p <+: x:=by
  intro k
  induction k with
  | zero =>
   intro _
   obtain⟨p,hp⟩:=List.exists_mem_of_ne_nil ps hne
   exact .inl ⟨p,hp,by rw[List.take_zero];exact List.nil_prefix,fun e=>hn p hp (by rw[← e,List.take_zero])⟩
  | succ k ih =>
   intro hk
   rcases ih (by omega) with hi|hr
   ·by_cases hy:Inner ps (x.take (k+1))
    ·exact .inl hy
    ·refine .inr ?_
     have l8:=zaN (inner_iff.mpr hi) h8
     rw[List.length_take,Nat.min_eq_left (by omega)] at l8
     have ha:xO ps ([]++x.take (k+1))=false:=by
      refine zkR m4 10 [[]] h [] (by simp) _ (hx.pre (List.take_prefix _ _)) (fun e=>?_) (fun s s1 s2 s3=>?_) (by rw[List.length_take];omega)
      ·have:=congrArg List.length e
       rw[List.length_take,Nat.min_eq_left hk] at this
       simp at this
      ·rw [List.nil_append]
       have p1:=jF s1 s2
       have e1:(x.take (k+1)).dropLast=x.take k:=by
        rw[List.dropLast_eq_take,List.length_take,Nat.min_eq_left hk,List.take_take]
        congr 1
        omega
       rw[e1] at p1
       exact inner_iff.mpr (hi.pre p1)
     rw[List.nil_append] at ha
     have hx2:∃p∈ps,x.take (k+1) <+: p∨p <+: x.take (k+1):=by
      by_cases hc:∃p∈ps,x.take (k+1) <+: p∨p <+: x.take (k+1)
      ·exact hc
      ·have:=apart_iff.mpr (fun p hp=>⟨fun z=>hc ⟨p,hp,.inl z⟩,fun z=>hc ⟨p,hp,.inr z⟩⟩)
       rw[ha] at this
       cases this
     obtain⟨p,hp,e|e⟩:=hx2
     ·by_cases e2:x.take (k+1)=p
      ·exact⟨p,hp,e2▸List.take_prefix _ _⟩
      ·exact absurd ⟨p,hp,e,e2⟩ hy
     ·exact⟨p,hp,e.trans (List.take_prefix _ _)⟩
   ·exact .inr hr
 rcases key x.length (Nat.le_refl _) with hi|⟨p,hp,e⟩
 ·obtain⟨p,hp,e,_⟩:=hi
  rw[List.take_of_length_le (Nat.le_refl _)] at e
  exact⟨p,hp,.inr e⟩
 ·exact⟨p,hp,.inl e⟩
theorem zdJ {m:Nat}{ps:List (List Nat)}(hp:Pg.Pcs m ps)(h:isBook m ps=true):Book m ps:=by
 obtain⟨m2,m4,hne,hl,hq⟩:=hp
 unfold isBook at h
 rw[Bool.and_eq_true,Bool.and_eq_true,Option.isNone_iff_eq_none,Option.isNone_iff_eq_none] at h
 have s:=zcO h.1.1
 exact⟨m2,m4,fun p hp=>(hq p hp).1,fun p hp=>(hq p hp).2.1,zmE s h.1.2,zfq m4 (fun p hp=>(hq p hp).2.2) hne (fun p hp=>(hq p hp).2.1) h.2,s.imp List.le_of_lt,s.imp fun h e=>by rw[e] at h;exact List.lt_irrefl _ h⟩
end My
namespace Pg
open PySem L2 My
theorem cA1 {fn:List D→Rs D}{f:Rho→Rs D}{ρ:Rho}{a:D}{r:Rs D}(e1:f ρ=.ok a)(e:fn [a]=r):fA (ari 1 fn) (zb f zA) ρ=r:=(fA1 e1).trans e
theorem cA2 {fn:List D→Rs D}{f g:Rho→Rs D}{ρ:Rho}{a b:D}{r:Rs D}(e1:f ρ=.ok a)(e2:g ρ=.ok b)(e:fn [a,b]=r):fA (ari 2 fn) (zb f (zb g zA)) ρ=r:=(fA2 e1 e2).trans e
theorem cA3 {fn:List D→Rs D}{f g h:Rho→Rs D}{ρ:Rho}{a b c:D}{r:Rs D}(e1:f ρ=.ok a)(e2:g ρ=.ok b)(e3:h ρ=.ok c)(e:fn [a,b,c]=r):fA (ari 3 fn) (zb f (zb g (zb h zA))) ρ=r:=(fA3 e1 e2 e3).trans e
theorem cA4 {fn:List D→Rs D}{f g h i:Rho→Rs D}{ρ:Rho}{a b c d:D}{r:Rs D}(e1:f ρ=.ok a)(e2:g ρ=.ok b)(e3:h ρ=.ok c)(e4:i ρ=.ok d)(e:fn [a,b,c,d]=r):fA (ari 4 fn) (zb f (zb g (zb h (zb i zA)))) ρ=r:=(fA4 e1 e2 e3 e4).trans e
theorem cA5 {fn:List D→Rs D}{f g h i j:Rho→Rs D}{ρ:Rho}{a b c d k:D}{r:Rs D}(e1:f ρ=.ok a)(e2:g ρ=.ok b)(e3:h ρ=.ok c)(e4:i ρ=.ok d)(e5:j ρ=.ok k)(e:fn [a,b,c,d,k]=r):fA (ari 5 fn) (zb f (zb g (zb h (zb i (zb j zA))))) ρ=r:=by
 unfold fA;rw[zJ e1 (zJ e2 (zJ e3 (zJ e4 (zJ e5 rfl))))];exact e
theorem zix {g:D→D→Option (List D)}{fa fb:Rho→Rs D}{ρ:Rho}{a b:D}{d:List D}(e1:fa ρ=.ok a)(e2:fb ρ=.ok b)(e3:g a b=some d):fL2 g fa fb ρ=.ok d:=by unfold fL2;rw[e1];show(fb ρ).bind _=_;rw[e2];show lf' (g a b)=_;rw[e3];rfl
structure Bb (m:Nat)(B:List (List Nat)):Prop where
 pcs:Pcs m B
 bk:Book m B
theorem Bb.isB {m:Nat}{B:List (List Nat)}(h:Bb m B):isBook m B=true:=h.bk.isBook
theorem Bb.l32 {m:Nat}{B:List (List Nat)}(h:Bb m B):B.length≤32:=h.pcs.2.2.2.1
theorem Bb.l8 {m:Nat}{B:List (List Nat)}(h:Bb m B):∀p∈B,p.length≤8:=fun p hp=>(h.pcs.2.2.2.2 p hp).2.2
theorem zlN {m:Nat}{B:List (List Nat)}(h:Book m B){n:Nat}(hn:(yu B).length≤n)(h10:n≤10)(h8:∀p∈B,p.length≤8):Bb m B∧B.length≤1+n*3:=by
 obtain⟨t,g,e1,e2⟩:=h.grAt
 have m2:=h.m2
 have m4:=h.m4
 have:t*(m - 1)≤t*3:=Nat.mul_le_mul_left t (by omega)
 have hl:B.length≤1+n*3:=by omega
 refine⟨⟨⟨m2,m4,fun z=>?_,by omega,fun p hp=>⟨h.let_ p hp,h.ne p hp,h8 p hp⟩⟩,h⟩,hl⟩
 rw[z] at e2
 simp at e2
 omega
end Pg
namespace Pg
open PySem L2 My
theorem zjU {g:D→Option (List D)}{f:Rho→Rs D}{ρ:Rho}{a:D}{ds:List D}(e1:f ρ=.ok a)(e2:g a=some ds):fI g f ρ=.ok ds:=by
 unfold fI;rw[e1];show(match g a with|some ds=>Rs.ok ds|none=>.no)=_;rw[e2]
end Pg
namespace Pg
open PySem L2 My
theorem zjz {ft:Rho→Rs Bool}{fa fb:Rho→Rs D}{ρ:Rho}{r:Rs D}(e:ft ρ=.ok true)(e2:fa ρ=r):fIf ft fa fb ρ=r:=by unfold fIf;rw[e];exact e2
theorem zgz {ft:Rho→Rs Bool}{fa fb:Rho→Rs D}{ρ:Rho}{r:Rs D}(e:ft ρ=.ok false)(e2:fb ρ=r):fIf ft fa fb ρ=r:=by unfold fIf;rw[e];exact e2
structure Kc (m n:Nat)(B:List (List Nat)):Prop where
 bk:Book m B
 ks:(yu B).length≤n
 l7:∀p∈B,p.length≤n
section
variable {m n:Nat}{B C S:List (List Nat)}
theorem Kc.bb (h:Kc m n B)(h8:n≤7):Bb m B:=(zlN h.bk h.ks (by omega) fun p hp=>by have:=h.l7 p hp;omega).1
theorem Kc.len (h:Kc m n B)(h8:n≤7):B.length≤1+n*3:=(zlN h.bk h.ks (by omega) fun p hp=>by have:=h.l7 p hp;omega).2
theorem Kc.of_gr (m2:2≤m)(m4:m≤4){t:Nat}(g:My.Gr m t B)(ht:t+1≤n):Kc m n B :=
 ⟨g.book m2 m4,by have:=g.keys m2 m4;omega,fun p hp=>by have:=g.short m2 m4 p hp;omega⟩
theorem Kc.part (h:Kc m n B){p:List Nat}(hp:p∈B):Kc m (n+1) (My.part m B (B.idxOf p)):=by
 obtain⟨b1,b2⟩:=h.bk.partAt hp
 refine⟨b1,?_,fun q hq=>?_⟩
 ·have:(yu (My.part m B (B.idxOf p))).length≤(p::yu B).length:=(uH _).length_le_of_subset fun x hx=>by
   rcases(b2 x).mp (innerKeys_mem.mp hx) with z|z
   ·exact .tail _ (innerKeys_mem.mpr z)
   ·exact z▸.head _
  have:=h.ks
  simp only[List.length_cons] at *
  omega
 ·rcases (part_mem h.bk.nd (List.idxOf_lt_length_iff.mpr hp)).mp hq with z|z
  ·have:=h.l7 q z.1
   omega
  ·obtain ⟨c,_,rfl⟩:=kids_mem.mp z
   have e:B.getD (B.idxOf p) []=p:=by
    rw[List.getD_eq_getElem?_getD,List.getElem?_eq_getElem (List.idxOf_lt_length_iff.mpr hp)]
    exact List.getElem_idxOf (List.idxOf_lt_length_iff.mpr hp)
   rw[e]
   have:=h.l7 p hp
   simp
   omega
end
theorem zaf {f:Rho→Rs D}{ρ:Rho}{L:List (List Nat)}(e:f ρ=.ok (.tup (sT L))):fO vd (zb f zA) ρ=.ok (.int (L.length:Int)):=zao (zJ e rfl) (by show some (D.int ((sT L).length:Int))=_;rw[xG])
end Pg
namespace Pg
open PySem L2 My
theorem zlt {f g:Rho→Rs Bool}{ρ:Rho}(e1:f ρ=.ok true):bOr f g ρ=.ok true:=by unfold bOr;rw[e1];rfl
theorem zmc {f g:Rho→Rs Bool}{ρ:Rho}{b:Bool}(e1:f ρ=.ok false)(e2:g ρ=.ok b):bOr f g ρ=.ok b:=by unfold bOr;rw[e1];exact e2
theorem qP {α:Type}{f:Rho→Rs α}{ρ:Rho}{x:α}(e:f ρ=.ok x):zcE f ρ=.ok x:=by unfold zcE;rw[e]
theorem zjj {fn:List D→Rs D}{n:Nat}{fs:Rho→Rs (List D)}{ρ:Rho}{ds:List D}{r:Rs D}(e:fs ρ=.ok ds)(hl:ds.length=n)(h:fn ds=r):fA (ari n fn) fs ρ=r:=by
 unfold fA;rw[e];show ari n fn ds=r;unfold ari;rw[if_pos hl];exact h
theorem zbj {ft:Rho→Rs Bool}{fe:Rho→Rs D}{ρ0:Rho}{d e:D}{ds es:List D}(h1:ft (ρ0.set 0 (.fz d))=.ok true)(h2:fe (ρ0.set 0 (.fz d))=.ok e)(h3:vq ft fe ρ0 ds=.ok es):vq ft fe ρ0 (d::ds)=.ok (e::es):=by
 rw[vq,h1];simp only;rw[h2];simp only;rw[h3];rfl
theorem zkC {l m:List D}(h:l.length+m.length≤1000000):zf8 (.lst l) (.lst m)=some (l++m):=if_pos h
theorem qU {a th:D}(h:wG [a,th]=.ok (.bl false)):yG [a,th]=.ex 1 :=
 wC ((zbx (jo (b:=false) (xH (cA2 (a:=a) (b:=th) rfl rfl h)))).trans rfl)
theorem ur {g h:Rho→Out}{ρ:Rho}{n:Nat}(e:g ρ=.ex n):zV g h ρ=.ex n:=by unfold zV;rw[e]
theorem kZ {f:Rho→Rs D}{ρ:Rho}{n:Nat}(e:f ρ=.ex n):vR f ρ=.ex n:=by unfold vR;rw[e]
end Pg
set_option maxHeartbeats 4000000
namespace Pg
open PySem L2 My PyProof.Rows
mutual
theorem zer:∀d:D,PyData.eqv d.py d.py=true
 | .non=>rfl
 | .bl b=>by cases b <;>rfl
 | .int i=>by show decide (i=i)=true;exact decide_eq_true rfl
 | .str l=>(zdS l l).trans (decide_eq_true rfl)
 | .lst xs=>za3 xs
 | .tup xs=>za3 xs
 | .dct _=>rfl
 | .exc _=>rfl
theorem za3:∀xs:List D,PyData.eqvAll (D.pys xs) (D.pys xs)=true
 | []=>rfl
 | d::ds=>by
  show(PyData.eqv d.py d.py&&PyData.eqvAll (D.pys ds) (D.pys ds))=true
  rw[zer d,za3 ds];rfl
end
theorem zfC {n:Nat}:∀{xs:List D},(∀d∈xs,d.py.depth≤n)→PyData.depthAll (D.pys xs)≤n
 | [],_=>Nat.zero_le _
 | d::ds,h=>by
  show max (PyData.depth d.py) (PyData.depthAll (D.pys ds))≤n
  exact Nat.max_le.mpr ⟨h d List.mem_cons_self,zfC fun e he=>h e (List.mem_cons_of_mem _ he)⟩
theorem zg8:∀{xs:List D},(∀d∈xs,d.pl=true)→D.pls xs=true
 | [],_=>rfl
 | d::ds,h=>by
  show(d.pl&&D.pls ds)=true
  rw[h d List.mem_cons_self,zg8 fun e he=>h e (List.mem_cons_of_mem _ he)];rfl
theorem zhE (neg:Bool){d:D}(h:d.pl=true)(hd:d.py.depth≤60):eqD neg d d=some (.bl (!neg)):=by
 unfold eqD
 rw[if_pos ⟨h,h,hd⟩,zer d]
 cases neg <;>rfl
theorem zkk {n:Nat}{xs:List D}(h:∀d∈xs,d.py.depth≤n):(D.lst xs).py.depth≤n+1:=by
 show PyData.depthAll (D.pys xs)+1≤n+1
 have:=zfC h
 omega
end Pg
namespace K42
open PySem L2 PyProof.Rows
open My
open Pg
def jl:Rho→Out :=
  (zV (yL 1 (fC (.int 0)))
  (zV (yL 2 (fC (.int 1)))
  (zV (qQ (uz 3 (fR j9 (zb (fC (.int 6)) zA))
  (sIf (bT (f2 ltI (fNm 2) (fO vd (zb (fNm 0) zA))))
  (zV (yL 2 (f2 zcB (fC (.int 2)) (fNm 2)))
  (yL 1 (f2 v5 (fNm 1) (fC (.int 1)))))
  sNx)))
  (zV (vU 4 (fL szL zA))
  (zV (qQ (uz 5 (fR j9 (zb (fO vd (zb (fNm 0) zA)) zA))
  (zV (yL 6 (fC (.str [])))
  (zV (uz 3 (fR j9 (zb (fNm 1) zA))
  (zV (yL 6 (f2 q9 (f2 ixD (fC (.str [48,49])) (f2 zcS (fNm 5) (fC (.int 2)))) (fNm 6)))
  (yL 5 (f2 zav (fNm 5) (fC (.int 2))))))
  (zaE 4 (fNm 6))))))
  (zbn 4 (yO (fNm 4))))))))
def qW:List D→Rs D:=yx 7 jl
def xY:Rho→Out :=
  (zV (yL 2 (f2 zfp (fA (ari 1 vB) (zb (fNm 0) zA)) (fNm 0)))
  (zV (uz 3 (fI lsD (fNm 1))
  (sIf (bT (f2 (zk7 true) (fNm 3) (fNm 2)))
  (sRs 4 (zb (fC (.str [111,110,101,32,111,102,32,116,104,101,115,101,32,105,115,32,110,111,32,119,111,114,100,32,111,102,32,97,32,112,105,101,99,101])) zA))
  sNx))
  (yO (fM isS za5 (fC (.str [])) (xN (fI lsD (fNm 1)) wj (f2 getD (fNm 1) (fNm 0)) [2])))))
def zL:List D→Rs D:=yx 4 xY
def vy:Rho→Out :=
  (zV (vR (fA (ari 2 yG) (zb (fNm 0) (zb (fNm 1) zA))))
  (zV (yL 4 (fA (ari 2 wK) (zb (fNm 1) (zb (fNm 2) zA))))
  (yO (fA (ari 2 zL) (zb (fNm 1) (zb (fSl (fNm 4) (zY (fO maxD (zb (fNm 3) (zb (fC (.int 0)) zA)))) yF) zA))))))
def yN:List D→Rs D:=yx 5 vy
def zdq:Rho→Out :=
  (yO (fA (ari 4 yN) (zb (fNm 0) (zb (fNm 1) (zb (fNm 2) (zb (fC (.int 0)) zA))))))
def xR:List D→Rs D:=yx 3 zdq
def vm:Rho→Out :=
  (sIf (zaG (bT (fA (ari 3 xr) (zb (fNm 0) (zb (fNm 1) (zb (fNm 2) zA))))))
  (sRs 5 (zb (fC (.str [116,104,105,115,32,105,115,32,110,111,32,119,104,111,108,101,32,110,117,109,98,101,114,32,119,105,116,104,105,110,32,105,116,115,32,98,111,117,110,100,115])) zA))
  sNx)
def xW:List D→Rs D:=yx 3 vm
def qN:Rho→Out :=
  (yO (fIf (bT (f2 (eqD false) (fNm 0) (fC (.str [48])))) (fC (.str [49])) (fC (.str [48]))))
def qD:List D→Rs D:=yx 1 qN
def zcj:Rho→Out :=
  (yO (f2 q9 (f2 q9 (fSl (fNm 0) yF (zY (fNm 1))) (fA (ari 1 qD) (zb (f2 ixD (fNm 0) (fNm 1)) zA))) (fSl (fNm 0) (zY (f2 v5 (fNm 1) (fC (.int 1)))) yF)))
def vO:List D→Rs D:=yx 2 zcj
def jK:Rho→Out :=
  (zV (vR (fA (ari 3 xR) (zb (fNm 0) (zb (fNm 1) (zb (fNm 2) zA)))))
  (zV (vR (fA (ari 3 xW) (zb (fNm 3) (zb (fC (.int 0)) (zb (f2 zdE (fO vd (zb (fNm 2) zA)) (fC (.int 1))) zA)))))
  (yO (fA (ari 3 xR) (zb (fNm 0) (zb (fNm 1) (zb (fA (ari 2 vO) (zb (fNm 2) (zb (fNm 3) zA))) zA)))))))
def vo:List D→Rs D:=yx 4 jK
def zdT:Rho→Out :=
  (zV (vR (fA (ari 2 yG) (zb (fNm 0) (zb (fNm 1) zA))))
  (zV (yL 2 (fA (ari 1 vB) (zb (fNm 1) zA)))
  (zV (vU 3 (fL szL zA))
  (zV (qQ (uz 4 (fI lsD (fNm 2))
  (uz 5 (fR j9 (zb (fO vd (zb (fNm 4) zA)) zA))
  (sIf (bT (f2 (inD true) (fA (ari 2 vO) (zb (fNm 4) (zb (fNm 5) zA))) (fNm 2)))
  (zaE 3 (fO mkT (zb (fNm 4) (zb (fNm 5) zA))))
  sNx))))
  (zbn 3 (yO (fNm 3)))))))
def kh:List D→Rs D:=yx 6 zdT
def zcg:Rho→Out :=
  (zV (yL 4 (fA (ari 3 wF) (zb (fNm 0) (zb (fNm 1) (zb (fNm 2) zA)))))
  (zV (yL 5 (fA (ari 3 wF) (zb (fNm 0) (zb (fNm 1) (zb (fNm 3) zA)))))
  (yO (fO vd (zb (xN (fR j9 (zb (fO vd (zb (fNm 4) zA)) zA)) (bT (f2 (eqD true) (f2 ixD (fNm 1) (fNm 0)) (f2 ixD (fNm 2) (fNm 0)))) (fNm 0) [4,5]) zA)))))
def um:List D→Rs D:=yx 6 zcg
def uQ:Rho→Out :=
  (zV (yL 1 (fO mkL (zb (f1 (zi1 [(1,true),(2,false),(4,false),(5,false)]) (fNm 0)) (zb (f1 (zi1 [(1,false),(2,false),(4,true),(5,false)]) (fNm 0)) (zb (f1 (zi1 [(1,false),(2,false),(4,false),(5,true)]) (fNm 0)) zA)))))
  (zV (yL 1 (fLs (fL2 zf8 (fNm 1) (fO mkL (zb (f1 (zi1 [(1,false),(2,true),(4,false),(5,false)]) (fNm 0)) zA)))))
  (zV (sIf (bOr (bT (f2 (eqD true) (fM ziM zji (fNm 1) (fC (.bl true))) (fC (.int 1)))) (zaG (bT (f1 (zi1 [(1,true),(2,true),(4,true),(5,true)]) (fNm 0)))))
  (yO (fO mkT (zb (fC (.str [114,101,102,117,115,101,100])) (zb (f1 zkM (fC (.int 1))) zA))))
  sNx)
  (yO (fO mkT (zb (fC (.str [114,101,102,117,115,101,100])) (zb (fM ziM zkn (fNm 1) (fC (.bl true))) zA)))))))
def qX:List D→Rs D:=yx 2 uQ
def jk:Rho→Out :=
  (zlp 5 [1,2,4,5] (fIf (zcE (bT (f2 (eqD false) (fNm 0) (fC (.int 0))))) (fA (ari 4 vo) (zcE (zb (fNm 1) (zb (fNm 2) (zb (fNm 3) (zb (fNm 4) zA)))))) (fIf (zcE (bT (f2 (eqD false) (fNm 0) (fC (.int 1))))) (fA (ari 2 kh) (zcE (zb (fNm 1) (zb (fNm 2) zA)))) (fA (ari 4 um) (zcE (zb (fNm 1) (zb (fNm 2) (zb (fNm 3) (zb (fNm 4) zA)))))))) (fA (ari 1 qX) (zb (fNm 5) zA)))
def zK:List D→Rs D:=yx 6 jk
def uP:Rho→Out :=
  (zV (qQ (uz 3 (fI tpD (fO mkT (zb (f1 zkM (fC (.int 1))) (zb (fO vd (zb (fNm 2) zA)) (zb (fC .non) (zb (fC (.bl true)) (zb (fC (.str [48])) zA)))))))
  (zV (sIf (bT (f2 (eqD true) (fA (ari 5 zK) (zb (fC (.int 0)) (zb (fNm 0) (zb (fNm 1) (zb (fNm 2) (zb (fNm 3) zA)))))) (fO mkT (zb (fC (.str [114,101,102,117,115,101,100])) (zb (fC (.int 2)) zA)))))
  (yO (fC (.bl false)))
  sNx)
  (zV (sIf (bT (f2 (eqD true) (fA (ari 5 zK) (zb (fC (.int 2)) (zb (fNm 0) (zb (fNm 1) (zb (fNm 3) (zb (fC .non) zA)))))) (fO mkT (zb (fC (.str [114,101,102,117,115,101,100])) (zb (fC (.int 3)) zA)))))
  (yO (fC (.bl false)))
  sNx)
  (sIf (bT (f2 (eqD true) (fA (ari 5 zK) (zb (fC (.int 2)) (zb (fNm 0) (zb (fNm 1) (zb (f2 ixD (fNm 1) (fC (.int 0))) (zb (fNm 3) zA)))))) (fO mkT (zb (fC (.str [114,101,102,117,115,101,100])) (zb (fC (.int 3)) zA)))))
  (yO (fC (.bl false)))
  sNx)))))
  (zV (sIf (bT (f2 (eqD true) (xN (fI tpD (fO mkT (zb (f2 q9 (fNm 2) (fC (.str [120]))) (zb (f2 q9 (fNm 2) (fC (.str [50]))) (zb (fC .non) (zb (fC (.int 1)) zA)))))) wj (fA (ari 5 zK) (zb (fC (.int 0)) (zb (fNm 1) (zb (fNm 2) (zb (fNm 0) (zb (fC .non) zA)))))) [0,1]) (fLs (fL2 zkb (fO mkL (zb (fO mkT (zb (fC (.str [114,101,102,117,115,101,100])) (zb (fC (.int 1)) zA))) zA)) (fC (.int 4))))))
  (yO (fC (.bl false)))
  sNx)
  (yO (f2 (eqD false) (xN (fR j9 (zb (fC (.int 3)) zA)) wj (fA (ari 5 zK) (zb (fNm 0) (zb (fNm 1) (zb (fSl (fNm 2) yF (zY (f1 zkM (fC (.int 1))))) (zb (fC .non) (zb (fC .non) zA)))))) [0,1]) (fLs (fL2 zkb (fO mkL (zb (fO mkT (zb (fC (.str [114,101,102,117,115,101,100])) (zb (fC (.int 0)) zA))) zA)) (fC (.int 3))))))))
def uw:List D→Rs D:=yx 4 uP
noncomputable def zi2:Rho→Out :=
  (zV (yL 1 (f2 v5 (fC (.int 2)) (fA (ari 3 zP) (zb (fNm 0) (zb (fC (.int 0)) (zb (fC (.int 3)) zA))))))
  (zV (yL 2 (fA (ari 4 qM) (zb (fNm 0) (zb (fC (.int 20)) (zb (fNm 1) (zb (fA (ari 3 zP) (zb (fNm 0) (zb (fC (.int 1)) (zb (fC (.int 5)) zA)))) zA))))))
  (zV (yL 3 (fA (ari 1 qW) (zb (fNm 2) zA)))
  (zV (yL 4 (fO vd (zb (f2 ixD (fNm 3) (fC (.int 0))) zA)))
  (zV (vJ 5 (fCp (fR j9 (zb (f2 v5 (fC (.int 1)) (fA (ari 3 zP) (zb (fNm 0) (zb (fC (.int 2)) (zb (fC (.int 5)) zA))))) zA)) wj (fA (ari 3 zP) (zb (fNm 1) (zb (f2 v5 (fC (.int 40)) (fNm 0)) (zb (fO vd (zb (fNm 2) zA)) zA)))) [0,2]))
  (zV (yL 6 (fM isS za5 (fC (.str [])) (xN (fI lsD (fNm 5)) wj (f2 ixD (fNm 1) (fNm 0)) [3])))
  (zV (qQ (uz 7 (fR j9 (zb (fO vd (zb (fNm 6) zA)) zA))
  (zV (yL 8 (f2 q9 (f2 q9 (fSl (fNm 6) yF (zY (fNm 7))) (fIf (bT (f2 (eqD false) (f2 ixD (fNm 6) (fNm 7)) (fC (.str [48])))) (fC (.str [49])) (fC (.str [48])))) (fSl (fNm 6) (zY (f2 v5 (fNm 7) (fC (.int 1)))) yF)))
  (zV (vJ 9 (fCp (fR zhm (zb (fC (.int 0)) (zb (fO vd (zb (fNm 8) zA)) (zb (fNm 4) zA)))) wj (fSl (fNm 1) (zY (fNm 0)) (zY (f2 v5 (fNm 0) (fNm 2)))) [8,4]))
  (zV (yL 10 (fO mkT (zb (fC (.str [114,101,102,117,115,101,100])) (zb (fC (.int 1)) zA))))
  (zV (sIf (bT (f2 (eqD false) (xN (fI lsD (fNm 9)) (bT (f2 (inD true) (fNm 0) (fNm 1))) (fNm 0) [3]) (fO mkL zA)))
  (yL 10 (fM isS za5 (fC (.str [])) (xN (fI lsD (fNm 9)) wj (f2 ixD (fNm 1) (fM ziM zgc (fNm 2) (fNm 0))) [2,3])))
  sNx)
  (sIf (bT (f2 (eqD true) (fA (ari 5 zK) (zb (fC (.int 0)) (zb (fNm 1) (zb (fNm 2) (zb (fNm 6) (zb (fNm 7) zA)))))) (fNm 10)))
  (yO (fC (.bl false)))
  sNx)))))))
  (zV (yL 11 (fO mkL zA))
  (zV (qQ (uz 12 (fI lsD (fNm 3))
  (uz 7 (fR j9 (zb (fNm 4) zA))
  (zV (yL 8 (f2 q9 (f2 q9 (fSl (fNm 12) yF (zY (fNm 7))) (fIf (bT (f2 (eqD false) (f2 ixD (fNm 12) (fNm 7)) (fC (.str [48])))) (fC (.str [49])) (fC (.str [48])))) (fSl (fNm 12) (zY (f2 v5 (fNm 7) (fC (.int 1)))) yF)))
  (yL 11 (fLs (fL2 zf8 (fNm 11) (fLs (fL2 zkb (fO mkL (zb (fO mkT (zb (fNm 12) (zb (fNm 7) zA))) zA)) (fO intD (zb (f2 (inD true) (fNm 8) (fNm 3)) zA)))))))))))
  (zV (sIf (bT (f2 (eqD true) (fA (ari 5 zK) (zb (fC (.int 1)) (zb (fNm 1) (zb (fNm 2) (zb (fC .non) (zb (fC .non) zA)))))) (fLs (fL zai (zb (fNm 11) zA)))))
  (yO (fC (.bl false)))
  sNx)
  (zV (qQ (uz 13 (fR j9 (zb (fC (.int 3)) zA))
  (zV (yL 14 (fA (ari 3 zP) (zb (fNm 0) (zb (f2 v5 (fC (.int 50)) (f2 zcB (fC (.int 2)) (fNm 13))) (zb (fO vd (zb (fNm 2) zA)) zA)))))
  (zV (yL 8 (fA (ari 3 zP) (zb (fNm 0) (zb (f2 v5 (fC (.int 51)) (f2 zcB (fC (.int 2)) (fNm 13))) (zb (fO vd (zb (fNm 2) zA)) zA)))))
  (zV (yL 15 (fO vd (zb (fLs (zhk (f2 ixD (fNm 3) (fNm 14)) (f2 ixD (fNm 3) (fNm 8)) (bT (f2 (eqD true) (fNm 0) (fNm 1))) (fC (.int 1)) [])) zA)))
  (sIf (bT (f2 (eqD true) (fA (ari 5 zK) (zb (fC (.int 2)) (zb (fNm 1) (zb (fNm 2) (zb (f2 ixD (fNm 2) (fNm 14)) (zb (f2 ixD (fNm 2) (fNm 8)) zA)))))) (fNm 15)))
  (yO (fC (.bl false)))
  sNx))))))
  (yO (fA (ari 3 uw) (zb (fNm 1) (zb (fNm 2) (zb (fNm 6) zA))))))))))))))))
noncomputable def ziw:List D→Rs D:=yx 16 zi2
end K42
namespace K42
open PySem L2 My Pg
def rf (j:Int):D:=.tup [.str [114,101,102,117,115,101,100],.int j]
def told (r:Rs D)(d:D):Prop:=r=.ok d∨(r=.ex 1∧d=rf 0)∨(r=.ex 4∧d=rf 1)∨(r=.ex 5∧d=rf 2)∨(r=.ex 2∧d=rf 3)
theorem zjQ {w:Int}{a b c e d:D}{r:Rs D}(ef:fIf (zcE (bT (f2 (eqD false) (fNm 0) (fC (.int 0))))) (fA (ari 4 vo) (zcE (zb (fNm 1) (zb (fNm 2) (zb (fNm 3) (zb (fNm 4) zA)))))) (fIf (zcE (bT (f2 (eqD false) (fNm 0) (fC (.int 1))))) (fA (ari 2 kh) (zcE (zb (fNm 1) (zb (fNm 2) zA)))) (fA (ari 4 um) (zcE (zb (fNm 1) (zb (fNm 2) (zb (fNm 3) (zb (fNm 4) zA))))))) [.fz (.int w),.fz a,.fz b,.fz c,.fz e,.no]=r)(h:told r d):zK [.int w,a,b,c,e]=.ok d:=by
 refine yq ?_
 show zlp 5 [1,2,4,5] _ _ [.fz (.int w),.fz a,.fz b,.fz c,.fz e,.no]=_
 unfold zlp
 rw[if_pos (show([_,_,_,_,_,_]:Rho).all _=true from rfl),ef]
 rcases h with h|⟨h,rfl⟩|⟨h,rfl⟩|⟨h,rfl⟩|⟨h,rfl⟩
 ·rw[h]
 ·rw[h];rfl
 ·rw[h];rfl
 ·rw[h];rfl
 ·rw[h];rfl
theorem zdC {a b c e d:D}(h:told (vo [a,b,c,e]) d):zK [.int 0,a,b,c,e]=.ok d:=zjQ (zjz (qP (xH (yc (a:=.int 0) (b:=.int 0) rfl rfl rfl))) (zjj (ds:=[a,b,c,e]) (qP rfl) rfl rfl)) h
theorem zlk {a b c e d:D}(h:told (kh [a,b]) d):zK [.int 1,a,b,c,e]=.ok d:=zjQ (zgz (qP (xH (yc (a:=.int 1) (b:=.int 0) rfl rfl rfl))) (zjz (qP (xH (yc (a:=.int 1) (b:=.int 1) rfl rfl rfl))) (zjj (ds:=[a,b]) (qP rfl) rfl rfl))) h
theorem zhS {a b c e d:D}(h:told (um [a,b,c,e]) d):zK [.int 2,a,b,c,e]=.ok d:=zjQ (zgz (qP (xH (yc (a:=.int 2) (b:=.int 0) rfl rfl rfl))) (zgz (qP (xH (yc (a:=.int 2) (b:=.int 1) rfl rfl rfl))) (zjj (ds:=[a,b,c,e]) (qP rfl) rfl rfl))) h
theorem tl {r:Rs D}{d:D}(h:r=.ok d):told r d:=.inl h
theorem tl0 {r:Rs D}(h:r=.ex 1):told r (rf 0):=.inr (.inl ⟨h,rfl⟩)
theorem tl1 {r:Rs D}(h:r=.ex 4):told r (rf 1):=.inr (.inr (.inl ⟨h,rfl⟩))
theorem tl2 {r:Rs D}(h:r=.ex 5):told r (rf 2):=.inr (.inr (.inr (.inl ⟨h,rfl⟩)))
theorem tl3 {r:Rs D}(h:r=.ex 2):told r (rf 3):=.inr (.inr (.inr (.inr ⟨h,rfl⟩)))
section
variable {m:Nat}{B:List (List Nat)}
theorem zk1 (h2:2≤B.length):1≤zB B.length:=by unfold zB;(repeat' split) <;>omega
theorem zfO {d:D}(h:inD true d (.tup (sT B))=some (.bl true)):wM [.tup (sT B),d]=.ex 2 :=
 wC ((zbx (xH (yc (a:=d) (b:=.tup (sT B)) rfl rfl h))).trans rfl)
theorem zeR (h:Bb m B){d:D}(hd:inD true d (.tup (sT B))=some (.bl true)):wF [.int m,.tup (sT B),d]=.ex 2 :=
 wC ((zx (v7 (cA2 (a:=.int m) (b:=.tup (sT B)) rfl rfl (wg h.pcs h.isB)))).trans (ur (kZ (cA2 (a:=.tup (sT B)) (b:=d) rfl rfl (zfO hd)))))
theorem zig {b c:D}(h:wG [.int m,b]=.ok (.bl false)):wF [.int m,b,c]=.ex 1:=wC (ur (kZ (cA2 (a:=.int m) (b:=b) rfl rfl (qU h))))
theorem zh3 {b c d:D}(h:wG [.int m,b]=.ok (.bl false)):yN [.int m,b,c,d]=.ex 1:=wC (ur (kZ (cA2 (a:=.int m) (b:=b) rfl rfl (qU h))))
theorem zdM {f:Rho→Rs D}{ρ:Rho}{n:Nat}(e:f ρ=.ex n):yO f ρ=.ex n:=by unfold yO;rw[e]
theorem jU {b c:D}{r:Rs D}(h:yN [.int m,b,c,.int 0]=r)(hr:(∃d,r=.ok d)∨∃n,r=.ex n):xR [.int m,b,c]=r:=by
 rcases hr with⟨d,rfl⟩|⟨n,rfl⟩
 ·exact yq (xj (cA4 (a:=.int m) (b:=b) (c:=c) (d:=.int 0) rfl rfl rfl rfl h))
 ·exact wC (zdM (cA4 (a:=.int m) (b:=b) (c:=c) (d:=.int 0) rfl rfl rfl rfl h))
abbrev gT:Rho→Out:=sIf (bT (f2 (zk7 true) (fNm 3) (fNm 2))) (sRs 4 (zb (fC (.str [111,110,101,32,111,102,32,116,104,101,115,101,32,105,115,32,110,111,32,119,111,114,100,32,111,102,32,97,32,112,105,101,99,101])) zA)) sNx
theorem zeZ (h32:B.length≤32){cs:List (List Nat)}(hin:∀p∈cs,p∈B)(h8:∀p∈B,p.length≤8)(hl:cs.length≤1000):zL [.tup (sT B),.lst (sT (cs.map (wd B)))]=.ok (.str cs.flatten):=by
 refine yq ((zx (ρ':=[.fz (.tup (sT B)),.fz (.lst (sT (cs.map (wd B)))),.fz (.dct ((W B.length).zip (sT B))),.no]) (zH (yc (a:=.lst (sT (W B.length))) (b:=.tup (sT B)) ((fA1 (a:=.tup (sT B)) rfl).trans (qe h32)) rfl (zeF h32)))).trans ?_)
 have em:sT (cs.map (wd B))=cs.map fun p=>.str (wd B p):=by unfold sT;rw[List.map_map];rfl
 obtain ⟨ρ',e,s,rfl⟩:=xq (i:=3) (g:=gT) (ρ:=[.fz (.tup (sT B)),.fz (.lst (sT (cs.map (wd B)))),.fz (.dct ((W B.length).zip (sT B))),.no]) (l:=cs) (enc:=fun p=>D.str (wd B p)) (fun _ ρ=>∃s,ρ=[.fz (.tup (sT B)),.fz (.lst (sT (cs.map (wd B)))),.fz (.dct ((W B.length).zip (sT B))),s]) ⟨.no,rfl⟩ (by
  rintro k p ρ hk ⟨s,rfl⟩
  have hpB:=hin p (List.mem_of_getElem? hk)
  refine⟨_,ifF (xH (yc (a:=.str (wd B p)) (b:=.dct ((W B.length).zip (sT B))) rfl rfl ?_)),.fz (.str (wd B p)),rfl⟩
  show some (D.bl (!(za1 ((W B.length).zip (sT B)) (wd B p)).isSome))=_
  rw[zb2 h32 hpB];rfl)
 refine(zx ((xQ (zjU (a:=.lst (cs.map fun p=>.str (wd B p))) (by rw[← em];rfl) rfl)).trans e)).trans ?_
 have e1:=yR (fe:=f2 getD (fNm 1) (fNm 0)) (ρ0:=[.no,.fz (.dct ((W B.length).zip (sT B)))]) (l:=cs) (enc:=fun p=>D.str (wd B p)) (fun p=>.str p) fun p hpc=>yc (a:=.dct ((W B.length).zip (sT B))) (b:=.str (wd B p)) rfl rfl (zb2 h32 (hin p hpc))
 have hfl:cs.flatten.length≤8*cs.length:=by
  clear e1 hl em e
  induction cs with
  | nil=>simp
  | cons p cs ih =>
   have:=ih fun q hq=>hin q (.tail _ hq)
   have:=h8 p (hin p (.head _))
   rw[List.flatten_cons,List.length_append,List.length_cons]
   omega
 refine xj (zho (a:=.str []) (b:=.lst (sT cs)) rfl rfl (vL (ds:=cs.map fun p=>.str (wd B p)) (by rw[em];rfl) (by rw[List.length_map];omega) e1) ?_)
 dsimp only [za5]
 rw[j8,if_pos ⟨j5 _,by omega⟩]
theorem zdg:∀(ks:List (List Nat)) (ds:List D) {k:List Nat},k∉ks→za1 (ks.zip ds) k=none
 | [],ds,k,h=>by cases ds <;>rfl
 | a::ks,[],k,h=>rfl
 | a::ks,d::ds,k,h=>by
  rw[List.zip_cons_cons]
  unfold za1
  rw[List.find?_cons_of_neg (by simp;exact fun e=>h (e▸List.mem_cons_self))]
  exact zdg ks ds fun z=>h (List.mem_cons_of_mem _ z)
theorem zd5 (h32:B.length≤32){cs:List (List Nat)}(hin:∀p∈cs,p∈B){w:List Nat}(hw:w∉W B.length)(rest:List (List Nat)):zL [.tup (sT B),.lst (sT (cs.map (wd B)++w::rest))]=.ex 4:=by
 refine wC ((zx (ρ':=[.fz (.tup (sT B)),.fz (.lst (sT (cs.map (wd B)++w::rest))),.fz (.dct ((W B.length).zip (sT B))),.no]) (zH (yc (a:=.lst (sT (W B.length))) (b:=.tup (sT B)) ((fA1 (a:=.tup (sT B)) rfl).trans (qe h32)) rfl (zeF h32)))).trans ?_)
 refine ur ((xQ (zjU (a:=.lst (sT (cs.map (wd B)++w::rest))) rfl rfl)).trans ?_)
 have key:∀(ds:List (List Nat)) (L:Sl) (s:Sl),(∀p∈ds,p∈B)→forD 3 gT (sT (ds.map (wd B)++w::rest)) [.fz (.tup (sT B)),L,.fz (.dct ((W B.length).zip (sT B))),s]=.ex 4:=by
  intro ds
  induction ds with
  | nil =>
   intro L s _
   have e:gT [.fz (.tup (sT B)),L,.fz (.dct ((W B.length).zip (sT B))),.fz (.str w)]=.ex 4:=by
    refine(zbx (xH (yc (a:=.str w) (b:=.dct ((W B.length).zip (sT B))) rfl rfl ?_))).trans rfl
    show some (D.bl (!(za1 ((W B.length).zip (sT B)) w).isSome))=_
    rw[zdg _ _ hw];rfl
   show(match gT [.fz (.tup (sT B)),L,.fz (.dct ((W B.length).zip (sT B))),.fz (.str w)] with | .nx ρ'=>forD 3 _ (sT rest) ρ' | .ct ρ'=>forD 3 _ (sT rest) ρ' | .bk ρ'=>.nx ρ'|o=>o)=_
   rw[e]
  | cons p ds ih =>
   intro L s hs
   have e:gT [.fz (.tup (sT B)),L,.fz (.dct ((W B.length).zip (sT B))),.fz (.str (wd B p))]=.nx [.fz (.tup (sT B)),L,.fz (.dct ((W B.length).zip (sT B))),.fz (.str (wd B p))]:=by
    refine ifF (xH (yc (a:=.str (wd B p)) (b:=.dct ((W B.length).zip (sT B))) rfl rfl ?_))
    show some (D.bl (!(za1 ((W B.length).zip (sT B)) (wd B p)).isSome))=_
    rw[zb2 h32 (hs p List.mem_cons_self)];rfl
   show(match gT [.fz (.tup (sT B)),L,.fz (.dct ((W B.length).zip (sT B))),.fz (.str (wd B p))] with | .nx ρ'=>forD 3 _ (sT (ds.map (wd B)++w::rest)) ρ' | .ct ρ'=>forD 3 _ (sT (ds.map (wd B)++w::rest)) ρ' | .bk ρ'=>.nx ρ'|o=>o)=_
   rw[e]
   exact ih L _ fun q hq=>hs q (List.mem_cons_of_mem _ hq)
 exact key cs _ _ hin
theorem za7 (h:Bb m B){d:D}(hd:bOr (zaG (bT (f1 (zbG isStr) (fNm 1)))) (bT (f2 (eqD true) (f2 zcS (fO vd (zb (fNm 1) zA)) (fNm 2)) (fC (.int 0)))) [.fz (.tup (sT B)),.fz d,.fz (.int ((zB B.length:Nat):Int))]=.ok true):yN [.int m,.tup (sT B),d,.int 0]=.ex 4:=by
 have e1:wK [.tup (sT B),d]=.ex 4:=wC ((zx (ρ':=[.fz (.tup (sT B)),.fz d,.fz (.int ((zB B.length:Nat):Int))]) (zH (cA1 (a:=.int (B.length:Int)) (zaf rfl) (jn h.l32)))).trans (ur ((zbx hd).trans rfl)))
 refine wC ((zx (v7 ((fA2 (a:=.int m) (b:=.tup (sT B)) rfl rfl).trans (wg h.pcs h.isB)))).trans (ur ?_))
 unfold yL
 rw[cA2 (a:=.tup (sT B)) (b:=d) rfl rfl e1]
theorem zhh (h:Bb m B):yN [.int m,.tup (sT B),.non,.int 0]=.ex 4:=za7 h (zlt (jo (b:=false) (xH rfl)))
theorem zls {f:Rho→Rs D}{ρ:Rho}{L:List (List Nat)}(e:f ρ=.ok (.lst (sT L)))(hl:L.flatten.length≤1000000):fM isS za5 (fC (.str [])) f ρ=.ok (.str L.flatten):=by
 refine zho (a:=.str []) (b:=.lst (sT L)) rfl rfl e ?_
 dsimp only [za5]
 rw[j8,if_pos ⟨j5 _,hl⟩]
theorem znn (x:List Nat):eqD true (.str x) (.str x)=some (.bl false):=(jq true x x).trans (by simp)
theorem qt {f g:Rho→Rs D}{ρ:Rho}{a b:List Nat}(e1:f ρ=.ok (.str a))(e2:g ρ=.ok (.str b))(h:a.length+b.length≤1000000):f2 q9 f g ρ=.ok (.str (a++b)):=yc e1 e2 (if_pos h)
theorem zkq {x:List Nat}{L:List (List Nat)}(h:x∉L):inQ true (.str x) (sT L)=some (.bl true):=(zfB true x L).trans (by rw[decide_eq_false h];rfl)
def oth (c:Nat):Nat:=if c=48 then 49 else 48
def flip (l:List Nat)(k:Nat):List Nat:=l.take k++[oth (l.getD k 0)]++l.drop (k+1)
theorem zie {l:List Nat}{k:Nat}(h:k<l.length):(flip l k).length=l.length:=by
 unfold flip
 simp only[List.length_append,List.length_take,List.length_drop,List.length_singleton]
 omega
theorem zbO {l:List Nat}{k:Nat}(h:k<l.length):ixD (.str l) (.int (k:Int))=some (.str [l.getD k 0]):=by
 have e:atI l (k:Int)=some (l.getD k 0):=by
  unfold atI
  rw[zfJ h]
  show l[k]? = _
  rw[List.getD_eq_getElem?_getD,List.getElem?_eq_getElem h]
  rfl
 show(atI l (k:Int)).map (fun c=>D.str [c])=_
 rw[e];rfl
theorem zil (c:Nat):qD [.str [c]]=.ok (.str [oth c]):=by
 unfold oth
 by_cases e:c=48
 ·rw[if_pos e,e];rfl
 ·rw[if_neg e]
  refine yq (xj (zgz (xH (yc (a:=.str [c]) (b:=.str [48]) rfl rfl ((jq false _ _).trans (by simp[e])))) rfl))
theorem zbT {fs fp fo:Rho→Rs D}{ρ:Rho}{l:List Nat}{k:Nat}(h:k<l.length)(hl:l.length≤1000)(e1:fs ρ=.ok (.str l))(e2:fp ρ=.ok (.int (k:Int)))(e3:fo ρ=.ok (.str [oth (l.getD k 0)])) :
  f2 q9 (f2 q9 (fSl fs yF (zY fp)) fo) (fSl fs (zY (f2 v5 fp (fC (.int 1)))) yF) ρ=.ok (.str (flip l k)):=by
 have s1:fSl fs yF (zY fp) ρ=.ok (.str (l.take k)):=zbP (a:=.str l) (l:=none) (h:=some (k:Int)) e1 rfl (by unfold zY;rw[e2];rfl) (by show some (D.str (zap l none (some (k:Int))))=_;rw[zcs])
 have s2:fSl fs (zY (f2 v5 fp (fC (.int 1)))) yF ρ=.ok (.str (l.drop (k+1))):=by
  refine zbP (a:=.str l) (l:=some ((k+1:Nat):Int)) (h:=none) e1 ?_ rfl (by show some (D.str (zap l (some ((k+1:Nat):Int)) none))=_;rw[zci])
  unfold zY
  rw[vp (i:=(k:Int)) (j:=1) e2 rfl]
  rfl
 have t1:(l.take k).length≤1000:=by rw[List.length_take];omega
 have t2:(l.drop (k+1)).length≤1000:=by rw[List.length_drop];omega
 refine qt (qt s1 e3 (by show(l.take k).length+1≤_;omega)) s2 ?_
 rw[List.length_append]
 show(l.take k).length+1+_≤_
 omega
theorem zc7 {l:List Nat}{k:Nat}(h:k<l.length)(hl:l.length≤1000):vO [.str l,.int (k:Int)]=.ok (.str (flip l k)) :=
 yq (xj (zbT (fs:=fNm 0) (fp:=fNm 1) h hl rfl rfl (cA1 (a:=.str [l.getD k 0]) (yc (a:=.str l) (b:=.int (k:Int)) rfl rfl (zbO h)) (zil _))))
theorem parts:∀(b q:Nat) (l:List Nat),l.length=b*q→∃ws:List (List Nat),ws.flatten=l∧(∀w∈ws,w.length=b)∧ws.length=q
 | b,0,l,h=>⟨[],by have:l=[]:=List.length_eq_zero_iff.mp (by omega);rw[this];rfl,fun w hw=>(by cases hw),rfl⟩
 | b,q+1,l,h=>by
  have hb:b*(q+1)=b*q+b:=Nat.mul_succ b q
  obtain⟨ws,e1,e2,e3⟩:=parts b q (l.drop b) (by rw[List.length_drop];omega)
  refine⟨l.take b::ws,by rw[List.flatten_cons,e1,List.take_append_drop],fun w hw=>?_,by simp[e3]⟩
  rcases List.mem_cons.mp hw with rfl|hw
  ·rw[List.length_take];omega
  ·exact e2 w hw
def pc (B:List (List Nat))(w:List Nat):List Nat:=B.getD ((W B.length).idxOf w) []
theorem zfA {w:List Nat}(h:w∈W B.length):pc B w∈B:=by
 have hi:=List.idxOf_lt_length_iff.mpr h
 rw[jP] at hi
 unfold pc
 rw[List.getD_eq_getElem?_getD,List.getElem?_eq_getElem hi]
 exact List.getElem_mem hi
theorem zmn (s:B.Pairwise (· < ·)){w:List Nat}(h:w∈W B.length):wd B (pc B w)=w:=by
 have hw:=List.idxOf_lt_length_iff.mpr h
 have hi:=hw
 rw[jP] at hi
 have e:pc B w=B[(W B.length).idxOf w]:=by unfold pc;rw[List.getD_eq_getElem?_getD,List.getElem?_eq_getElem hi];rfl
 unfold wd
 rw[e,zeC s hi,List.getD_eq_getElem?_getD,List.getElem?_eq_getElem hw]
 exact List.getElem_idxOf hw
theorem zfE (s:B.Pairwise (· < ·)):∀{ws:List (List Nat)},(∀w∈ws,w∈W B.length)→(ws.map (pc B)).map (wd B)=ws
 | [],_=>rfl
 | w::ws,h=>by rw[List.map_cons,List.map_cons,zmn s (h w List.mem_cons_self),zfE s fun x hx=>h x (List.mem_cons_of_mem _ hx)]
theorem zeL (h:Bb m B){ws:List (List Nat)}(hl:ws.length≤1000):((∀w∈ws,w∈W B.length)∧zL [.tup (sT B),.lst (sT ws)]=.ok (.str (ws.map (pc B)).flatten))∨((∃w∈ws,w∉W B.length)∧zL [.tup (sT B),.lst (sT ws)]=.ex 4):=by
 have s:=My.strict h.bk.srt h.bk.nd
 by_cases c:∀w∈ws,w∈W B.length
 ·refine .inl ⟨c,?_⟩
  have e:=zeZ h.l32 (cs:=ws.map (pc B)) (fun p hp=>by obtain⟨w,hw,rfl⟩:=List.mem_map.mp hp;exact zfA (c w hw)) h.l8 (by rw[List.length_map];exact hl)
  rw[zfE s c] at e
  exact e
 ·have c':∃w∈ws,w∉W B.length:=by
   refine Classical.byContradiction fun z=>c fun w hw=>Classical.byContradiction fun y=>z ⟨w,hw,y⟩
  refine .inr ⟨c',?_⟩
  have key:∀{ws:List (List Nat)},(∃w∈ws,w∉W B.length)→∃a w r,ws=a++w::r∧(∀x∈a,x∈W B.length)∧w∉W B.length:=by
   intro ws
   induction ws with
   | nil=>rintro⟨w,hw,_⟩;cases hw
   | cons x ws ih =>
    rintro⟨w,hw,hn⟩
    by_cases hx:x∈W B.length
    ·rcases List.mem_cons.mp hw with rfl|hw
     ·exact absurd hx hn
     ·obtain⟨a,w',r,e,h1,h2⟩:=ih ⟨w,hw,hn⟩
      refine⟨x::a,w',r,by rw[e];rfl,fun y hy=>?_,h2⟩
      rcases List.mem_cons.mp hy with rfl|hy
      ·exact hx
      ·exact h1 y hy
    ·exact⟨[],x,ws,rfl,fun y hy=>(by cases hy),hx⟩
  obtain⟨a,w,r,e,h1,h2⟩:=key c'
  have e2:=zd5 h.l32 (cs:=a.map (pc B)) (fun p hp=>by obtain⟨w,hw,rfl⟩:=List.mem_map.mp hp;exact zfA (h1 w hw)) h2 r
  rw[zfE s h1,← e] at e2
  exact e2
theorem zib (h:Bb m B)(h2:2≤B.length){ws:List (List Nat)}(hw:∀w∈ws,w.length=zB B.length)(hl:ws.length≤1000):yN [.int m,.tup (sT B),.str ws.flatten,.int 0]=zL [.tup (sT B),.lst (sT ws)]:=by
 have e0:fA (ari 2 zL) (zb (fNm 1) (zb (fSl (fNm 4) (zY (fO maxD (zb (fNm 3) (zb (fC (.int 0)) zA)))) yF) zA)) [.fz (.int m),.fz (.tup (sT B)),.fz (.str ws.flatten),.fz (.int 0),.fz (.lst (sT ws))]=zL [.tup (sT B),.lst (sT ws)]:=by
  refine fA2 (a:=.tup (sT B)) (b:=.lst (sT ws)) rfl (zbP (a:=.lst (sT ws)) (l:=some 0) (h:=none) rfl rfl rfl ?_)
  show some (D.lst (zap (sT ws) (some ((0:Nat):Int)) none))=_
  rw[zci];rfl
 have es:∀o,yO (fA (ari 2 zL) (zb (fNm 1) (zb (fSl (fNm 4) (zY (fO maxD (zb (fNm 3) (zb (fC (.int 0)) zA)))) yF) zA))) [.fz (.int m),.fz (.tup (sT B)),.fz (.str ws.flatten),.fz (.int 0),.fz (.lst (sT ws))]=o→vy [.fz (.int m),.fz (.tup (sT B)),.fz (.str ws.flatten),.fz (.int 0),.no]=o:=fun o ho =>
  (zx (v7 ((fA2 (a:=.int m) (b:=.tup (sT B)) rfl rfl).trans (wg h.pcs h.isB)))).trans ((zx (ρ':=[.fz (.int m),.fz (.tup (sT B)),.fz (.str ws.flatten),.fz (.int 0),.fz (.lst (sT ws))]) (zH ((fA2 (a:=.tup (sT B)) (b:=.str ws.flatten) rfl rfl).trans (zbu h2 h.l32 hw hl)))).trans ho)
 rcases zeL h hl with⟨_,e⟩|⟨_,e⟩
 ·rw[e] at e0 ⊢;exact yq (es _ (xj e0))
 ·rw[e] at e0 ⊢;exact wC (es _ (zdM e0))
theorem zaM (h:Bb m B)(h2:2≤B.length){ws:List (List Nat)}(hw:∀w∈ws,w.length=zB B.length)(hl:ws.length≤1000):((∀w∈ws,w∈W B.length)∧xR [.int m,.tup (sT B),.str ws.flatten]=.ok (.str (ws.map (pc B)).flatten))∨((∃w∈ws,w∉W B.length)∧xR [.int m,.tup (sT B),.str ws.flatten]=.ex 4):=by
 have e:=zib h h2 hw hl
 rcases zeL h hl with⟨c,e'⟩|⟨c,e'⟩
 ·exact .inl ⟨c,jU (e.trans e') (.inl ⟨_,rfl⟩)⟩
 ·exact .inr ⟨c,jU (e.trans e') (.inr ⟨_,rfl⟩)⟩
theorem ze6 {k n:Int}(h0:0≤k)(h1:k≤n):xW [.int k,.int 0,.int n]=.ok .non:=by
 refine zeb (ifF (jo (b:=true) (xH ((cA3 (a:=.int k) (b:=.int 0) (c:=.int n) rfl rfl rfl (vM _ _ _)).trans ?_))))
 rw[decide_eq_true h0,decide_eq_true h1];rfl
theorem zei {d:D}{n:Int}(h:xr [d,.int 0,.int n]=.ok (.bl false)):xW [d,.int 0,.int n]=.ex 5 :=
 wC ((zbx (jo (b:=false) (xH (cA3 (a:=d) (b:=.int 0) (c:=.int n) rfl rfl rfl h)))).trans rfl)
theorem len_sub {l:List Nat}{f:Rho→Rs D}{ρ:Rho}(e:f ρ=.ok (.str l)):f2 zdE (fO vd (zb f zA)) (fC (.int 1)) ρ=.ok (.int ((l.length:Int) - 1)):=zjX (zao (ds:=[.str l]) (zJ e rfl) rfl) rfl
theorem zbH (h:Bb m B)(h2:2≤B.length){ws:List (List Nat)}(hin:∀w∈ws,w∈W B.length)(hl:ws.length≤100){k:Nat}(hk:k<ws.flatten.length){r:Rs D}(hr:(∃d,r=.ok d)∨∃n,r=.ex n)(hb:xR [.int m,.tup (sT B),.str (flip ws.flatten k)]=r) :
  vo [.int m,.tup (sT B),.str ws.flatten,.int (k:Int)]=r:=by
 have b5:=jX B.length
 have fl:ws.flatten.length≤500:=by
  have:ws.flatten.length=ws.length*zB B.length:=by
   clear hk hb hl
   induction ws with
   | nil=>simp
   | cons w ws ih=>rw[List.flatten_cons,List.length_append,ih (fun x hx=>hin x (List.mem_cons_of_mem _ hx)),zdx (hin w List.mem_cons_self),List.length_cons,Nat.succ_mul];omega
  have h':ws.length*zB B.length≤100*5:=Nat.mul_le_mul hl b5
  omega
 obtain ⟨_,e1⟩:(∀w∈ws,w∈W B.length)∧xR [.int m,.tup (sT B),.str ws.flatten]=.ok (.str (ws.map (pc B)).flatten):=by
  rcases zaM h h2 (fun w hw=>zdx (hin w hw)) (by omega) with e|⟨⟨w,hw,hn⟩,_⟩
  ·exact e
  ·exact absurd (hin w hw) hn
 have key:∀o,yO (fA (ari 3 xR) (zb (fNm 0) (zb (fNm 1) (zb (fA (ari 2 vO) (zb (fNm 2) (zb (fNm 3) zA))) zA)))) [.fz (.int m),.fz (.tup (sT B)),.fz (.str ws.flatten),.fz (.int (k:Int))]=o→jK [.fz (.int m),.fz (.tup (sT B)),.fz (.str ws.flatten),.fz (.int (k:Int))]=o:=fun o ho =>
  (zx (v7 (cA3 (a:=.int m) (b:=.tup (sT B)) (c:=.str ws.flatten) rfl rfl rfl e1))).trans ((zx (v7 (cA3 (a:=.int (k:Int)) (b:=.int 0) (c:=.int ((ws.flatten.length:Int) - 1)) rfl rfl (len_sub rfl) (ze6 (by omega) (by omega))))).trans ho)
 have e2:fA (ari 3 xR) (zb (fNm 0) (zb (fNm 1) (zb (fA (ari 2 vO) (zb (fNm 2) (zb (fNm 3) zA))) zA))) [.fz (.int m),.fz (.tup (sT B)),.fz (.str ws.flatten),.fz (.int (k:Int))]=r:=cA3 (a:=.int m) (b:=.tup (sT B)) (c:=.str (flip ws.flatten k)) rfl rfl (cA2 (a:=.str ws.flatten) (b:=.int (k:Int)) rfl rfl (zc7 hk (by omega))) hb
 rcases hr with⟨d,rfl⟩|⟨n,rfl⟩
 ·exact yq (key _ (xj e2))
 ·exact wC (key _ (zdM e2))
def R (n:Nat):List (List Nat×Nat):=(W n).flatMap fun w=>((List.range (zB n)).filter fun k=>decide (flip w k∉W n)).map fun k=>(w,k)
def rwD (x:List Nat×Nat):D:=.tup [.str x.1,.int (x.2:Int)]
theorem zmp:∀n<17,(R n).length<64∧(R n).Pairwise (fun a b=>a.1<b.1∨a.1=b.1∧a.2<b.2):=by decide +kernel
theorem zg9 (x:List Nat×Nat):zaF (rwD x)=[.inr (T x.1),.inl (x.2:Int)]:=rfl
theorem zfm {a b:List Nat}(h:T a=T b):a=b:=by rw[← jL a,← jL b,h]
theorem zml {x y:List Nat×Nat}(h:x.1<y.1∨x.1=y.1∧x.2<y.2):zbK (zaF (rwD x)) (zaF (rwD y))=true:=by
 rw[zg9,zg9]
 unfold zbK
 rcases h with h|⟨h1,h2⟩
 ·have ne:(Sum.inr (T x.1):Key)≠.inr (T y.1):=fun z=>by
   injection z with z
   rw[zfm z] at h
   exact List.lt_irrefl _ h
  rw[if_neg ne]
  show decide ((T x.1).cps.toList<(T y.1).cps.toList)=true
  rw[jL,jL]
  exact decide_eq_true h
 ·rw[if_pos (by rw[h1])]
  unfold zbK
  have ne:(Sum.inl (x.2:Int):Key)≠.inl (y.2:Int):=fun z=>by injection z with z;omega
  rw[if_neg ne]
  exact decide_eq_true (by omega)
theorem zl7 {n:Nat}(hn:n<17):zkt ((R n).map rwD)∧RisP ((R n).map rwD):=by
 obtain⟨l64,pw⟩:=zmp n hn
 have ris:RisP ((R n).map rwD):=by
  unfold RisP
  rw[List.pairwise_map]
  exact pw.imp fun h=>zml h
 refine⟨⟨⟨⟨false,fun ks hk=>?_⟩,fun x hx y hy=>?_,?_⟩,fun d hd=>?_,by rw[List.length_map];exact l64⟩,ris⟩
 ·obtain⟨d,hd,rfl⟩:=List.mem_map.mp hk
  obtain⟨x,_,rfl⟩:=List.mem_map.mp hd
  exact⟨_,_,zg9 x,rfl⟩
 ·obtain⟨d,hd,rfl⟩:=List.mem_map.mp hx
  obtain⟨x',_,rfl⟩:=List.mem_map.mp hd
  obtain⟨d,hd,rfl⟩:=List.mem_map.mp hy
  obtain⟨y',_,rfl⟩:=List.mem_map.mp hd
  rw[zg9,zg9];rfl
 ·refine List.pairwise_map.mpr (ris.imp fun {a b} h z=>?_)
  rw[z,zbW] at h
  cases h
 ·obtain⟨x,_,rfl⟩:=List.mem_map.mp hd
  rfl
def rowsOf (n:Nat)(w:List Nat)(k:Nat):List (List Nat×Nat):=((List.range k).filter fun k=>decide (flip w k∉W n)).map fun k=>(w,k)
theorem zaO (n:Nat)(w:List Nat)(k:Nat):rowsOf n w (k+1)=rowsOf n w k++(if flip w k∉W n then[(w,k)] else[]):=by
 unfold rowsOf
 rw[List.range_succ,List.filter_append,List.map_append]
 congr 1
 by_cases c:flip w k∉W n <;>simp[c]
theorem zl1 {n:Nat}(L:List (List Nat)):(L.flatMap fun w=>rowsOf n w (zB n)).length≤L.length*zB n:=by
 induction L with
 | nil=>simp
 | cons w L ih =>
  rw[List.flatMap_cons,List.length_append,List.length_cons,Nat.succ_mul]
  have:(rowsOf n w (zB n)).length≤zB n:=by
   unfold rowsOf
   rw[List.length_map]
   have:=List.length_filter_le (fun k=>decide (flip w k∉W n)) (List.range (zB n))
   rw[List.length_range] at this
   exact this
  omega
theorem zgT (n:Nat)(w:List Nat)(k:Nat):(rowsOf n w k).length≤k:=by
 unfold rowsOf
 rw[List.length_map]
 have:=List.length_filter_le (fun k=>decide (flip w k∉W n)) (List.range k)
 rw[List.length_range] at this
 exact this
theorem zmx {fs fw:Rho→Rs D}{ρ:Rho}{x:List Nat}{n:Nat}(e1:fs ρ=.ok (.str x))(e2:fw ρ=.ok (.lst (sT (W n)))):f2 (inD true) fs fw ρ=.ok (.bl (decide (x∉W n))):=by
 refine yc e1 e2 ((zfB true x (W n)).trans ?_)
 by_cases c:x∈W n <;>simp[c]
abbrev gK:Rho→Out:=sIf (bT (f2 (inD true) (fA (ari 2 vO) (zb (fNm 4) (zb (fNm 5) zA))) (fNm 2))) (zaE 3 (fO mkT (zb (fNm 4) (zb (fNm 5) zA)))) sNx
theorem ziv (h:Bb m B)(hn:B.length<17):kh [.int m,.tup (sT B)]=.ok (.lst ((R B.length).map rwD)):=by
 have b5:=jX B.length
 have inner:∀(w:List Nat) (rows:List (List Nat×Nat)) (s5:Sl),w∈W B.length→rows.length≤100→∃s5',forD 5 gK ((List.range (zB B.length)).map fun(k:Nat)=>D.int (k:Int)) [.fz (.int m),.fz (.tup (sT B)),.fz (.lst (sT (W B.length))),.ow (rows.map rwD),.fz (.str w),s5]=.nx [.fz (.int m),.fz (.tup (sT B)),.fz (.lst (sT (W B.length))),.ow ((rows++rowsOf B.length w (zB B.length)).map rwD),.fz (.str w),s5']:=by
  intro w rows s5 hw hr
  have wl:=zdx hw
  obtain ⟨ρ',e,s5',rfl⟩:=xq (i:=5) (g:=gK) (l:=List.range (zB B.length)) (enc:=fun(k:Nat)=>D.int (k:Int)) (ρ:=[.fz (.int m),.fz (.tup (sT B)),.fz (.lst (sT (W B.length))),.ow (rows.map rwD),.fz (.str w),s5])
   (fun k ρ=>∃s,ρ=[.fz (.int m),.fz (.tup (sT B)),.fz (.lst (sT (W B.length))),.ow ((rows++rowsOf B.length w k).map rwD),.fz (.str w),s]) ⟨s5,by rw[show rowsOf B.length w 0=[] from rfl,List.append_nil]⟩ (by
    rintro i k ρ hk ⟨s,rfl⟩
    obtain⟨hi,ek⟩:=List.getElem?_eq_some_iff.mp hk
    rw[List.getElem_range] at ek
    subst ek
    rw[List.length_range] at hi
    have rl:=zgT B.length w i
    have et:=xH (zmx (n:=B.length) (fs:=fA (ari 2 vO) (zb (fNm 4) (zb (fNm 5) zA))) (fw:=fNm 2) (ρ:=[.fz (.int m),.fz (.tup (sT B)),.fz (.lst (sT (W B.length))),.ow ((rows++rowsOf B.length w i).map rwD),.fz (.str w),.fz (.int (i:Int))]) (cA2 (a:=.str w) (b:=.int (i:Int)) rfl rfl (zc7 (by omega) (by omega))) rfl)
    rw[zaO]
    by_cases c:flip w i∉W B.length
    ·rw[decide_eq_true c] at et
     rw[if_pos c,← List.append_assoc]
     have e4:(rows++rowsOf B.length w i++[(w,i)]).map rwD=(rows++rowsOf B.length w i).map rwD++[rwD (w,i)]:=by rw[List.map_append];rfl
     rw[e4]
     exact⟨_,(zbx et).trans (zdH (ds:=(rows++rowsOf B.length w i).map rwD) (d:=rwD (w,i)) rfl rfl (by rw[List.length_map,List.length_append];omega)),_,rfl⟩
    ·rw[decide_eq_false c] at et
     rw[if_neg c,List.append_nil]
     exact⟨_,(ze2 et).trans rfl,_,rfl⟩)
  rw[List.length_range] at e
  exact⟨s5',e⟩
 obtain ⟨ρ',e,s4,s5,rfl⟩:=xq (i:=4) (g:=uz 5 (fR j9 (zb (fO vd (zb (fNm 4) zA)) zA)) gK) (l:=W B.length) (enc:=D.str) (ρ:=[.fz (.int m),.fz (.tup (sT B)),.fz (.lst (sT (W B.length))),.ow [],.no,.no])
  (fun k ρ=>∃s4 s5,ρ=[.fz (.int m),.fz (.tup (sT B)),.fz (.lst (sT (W B.length))),.ow ((((W B.length).take k).flatMap fun w=>rowsOf B.length w (zB B.length)).map rwD),s4,s5]) ⟨.no,.no,by rw[List.take_zero];rfl⟩ (by
   rintro k w ρ hk ⟨s4,s5,rfl⟩
   have hw:=List.mem_of_getElem? hk
   have e3:(W B.length).take (k+1)=(W B.length).take k++[w]:=by rw[List.take_add_one,hk];rfl
   have rl:=zl1 (n:=B.length) ((W B.length).take k)
   have tl:((W B.length).take k).length≤B.length:=by rw[List.length_take,jP];omega
   have ml:((W B.length).take k).length*zB B.length≤16*5:=Nat.mul_le_mul (by omega) b5
   obtain⟨s5',ei⟩:=inner w (((W B.length).take k).flatMap fun w=>rowsOf B.length w (zB B.length)) s5 hw (by omega)
   rw[e3,List.flatMap_append,List.flatMap_singleton]
   refine⟨_,(xQ (jc (ds:=[.int ((zB B.length:Nat):Int)]) (zJ (zao (ds:=[.str w]) rfl (by rw[← zdx hw];rfl)) rfl) (xU (by omega)))).trans ei,_,_,rfl⟩)
 rw[List.take_of_length_le (Nat.le_refl _)] at e
 exact yq ((zx (v7 (cA2 (a:=.int m) (b:=.tup (sT B)) rfl rfl (wg h.pcs h.isB)))).trans ((zx (zH (cA1 (a:=.tup (sT B)) rfl (qe h.l32)))).trans ((zx (zaD (d:=[]) rfl)).trans ((zx (vX ((xQ (ds:=sT (W B.length)) rfl).trans e))).trans ((zed rfl).trans (xj rfl))))))
def dist (a b:List Nat):Nat:=((List.range a.length).filter fun i=>decide (a.getD i 0≠b.getD i 0)).length
theorem zgC (h:Bb m B)(hn:B.length<17){p q:List Nat}(hp:p∈B)(hq:q∈B):um [.int m,.tup (sT B),.str p,.str q]=.ok (.int (dist (wd B p) (wd B q):Nat)):=by
 have b5:=jX B.length
 have l1:=zdx (zhc hp)
 have l2:=zdx (zhc hq)
 refine yq ((zx (zH (cA3 (a:=.int m) (b:=.tup (sT B)) (c:=.str p) rfl rfl rfl (jW h.pcs h.isB hp)))).trans ((zx (zH (cA3 (a:=.int m) (b:=.tup (sT B)) (c:=.str q) rfl rfl rfl (jW h.pcs h.isB hq)))).trans (xj (zao (ds:=[.lst (((List.range (wd B p).length).filter fun i=>decide ((wd B p).getD i 0≠(wd B q).getD i 0)).map fun(k:Nat)=>D.int (k:Int))]) (zJ ?_ rfl) ?_))))
 ·refine vL (ds:=(List.range (wd B p).length).map fun(k:Nat)=>D.int (k:Int)) (jc (ds:=[.int ((wd B p).length:Int)]) (zJ (zao (ds:=[.str (wd B p)]) rfl rfl) rfl) (xU (by omega))) (by rw[List.length_map,List.length_range];omega) (zaL (fun i=>decide ((wd B p).getD i 0≠(wd B q).getD i 0)) (fun(k:Nat)=>D.int (k:Int)) fun i hi=>⟨?_,fun _=>rfl⟩)
  have hi':=List.mem_range.mp hi
  refine xH (yc (a:=.str [(wd B p).getD i 0]) (b:=.str [(wd B q).getD i 0]) (yc (a:=.str (wd B p)) (b:=.int (i:Int)) rfl rfl (zbO (by omega))) (yc (a:=.str (wd B q)) (b:=.int (i:Int)) rfl rfl (zbO (by omega))) ((jq true _ _).trans ?_))
  by_cases c:(wd B p).getD i 0=(wd B q).getD i 0 <;>simp[c]
 ·show some (D.int ((((List.range (wd B p).length).filter _).map _).length:Int))=_
  rw[List.length_map];rfl
theorem zej:∀(a b:List Nat),a.length=b.length→dist a b=((a.zip b).filter fun x=>decide (x.1≠x.2)).length
 | [],[],_=>rfl
 | x::a,y::b,h=>by
  have ih:=zej a b (by simpa using h)
  unfold dist at ih ⊢
  rw[List.length_cons,List.range_succ_eq_map,List.filter_cons,List.zip_cons_cons,List.filter_cons,List.filter_map]
  have ec:((fun i=>decide ((x::a).getD i 0≠(y::b).getD i 0))∘Nat.succ)=fun i=>decide (a.getD i 0≠b.getD i 0):=funext fun i=>by simp
  rw[ec]
  by_cases c:x=y
  ·rw[if_neg (by simp[c]),if_neg (by simp[c]),List.length_map];exact ih
  ·rw[if_pos (by simp[c]),if_pos (by simp[c]),List.length_cons,List.length_cons,List.length_map,ih]
 | [],_::_,h=>by simp at h
 | _::_,[],h=>by simp at h
abbrev gB:Rho→Out:=zV (yL 6 (f2 q9 (f2 ixD (fC (.str [48,49])) (f2 zcS (fNm 5) (fC (.int 2)))) (fNm 6))) (yL 5 (f2 zav (fNm 5) (fC (.int 2))))
theorem zj9 (hn:B.length<33):qW [.tup (sT B)]=.ok (.lst (sT (W B.length))):=by
 have b5:=jX B.length
 have bl:=zd1 B.length hn
 obtain ⟨ρ1,e1,s3,rfl⟩:=xq (i:=3) (g:=sIf (bT (f2 ltI (fNm 2) (fO vd (zb (fNm 0) zA)))) (zV (yL 2 (f2 zcB (fC (.int 2)) (fNm 2))) (yL 1 (f2 v5 (fNm 1) (fC (.int 1))))) sNx) (l:=List.range 6) (enc:=fun(k:Nat)=>D.int (k:Int)) (ρ:=[.fz (.tup (sT B)),.fz (.int 0),.fz (.int 1),.no,.no,.no,.no])
  (fun k ρ=>∃s,ρ=[.fz (.tup (sT B)),.fz (.int ((min k (zB B.length):Nat):Int)),.fz (.int ((2 ^ min k (zB B.length):Nat):Int)),s,.no,.no,.no]) ⟨.no,by simp⟩ (by
   rintro i k ρ hk ⟨s,rfl⟩
   obtain⟨hi,ek⟩:=List.getElem?_eq_some_iff.mp hk
   rw[List.length_range] at hi
   have hb:=bl (min i (zB B.length)) (by omega)
   have et:bT (f2 ltI (fNm 2) (fO vd (zb (fNm 0) zA))) [.fz (.tup (sT B)),.fz (.int ((min i (zB B.length):Nat):Int)),.fz (.int ((2 ^ min i (zB B.length):Nat):Int)),.fz (.int (k:Int)),.no,.no,.no]=.ok (decide (2 ^ min i (zB B.length)<B.length)):=by
    refine xH (yc (a:=.int ((2 ^ min i (zB B.length):Nat):Int)) (b:=.int (B.length:Int)) rfl (zaf rfl) ?_)
    show some (D.bl (decide (((2 ^ min i (zB B.length):Nat):Int)<(B.length:Int))))=_
    rw[decide_eq_decide.mpr (Int.ofNat_lt)]
   have p5:2 ^ min i (zB B.length)≤2 ^ 5:=Nat.pow_le_pow_right (by decide) (by omega)
   by_cases c:i<zB B.length
   ·have m1:min i (zB B.length)=i:=by omega
    have m2:min (i+1) (zB B.length)=i+1:=by omega
    rw[m1] at et hb p5 ⊢
    rw[m2]
    rw[decide_eq_true (hb.mpr c)] at et
    have sp:∀P:Nat,P≤32→Sm (P:Int):=fun P hP=>vQ (by omega)
    refine⟨_,(zbx et).trans ((zx (zH (uU (i:=2) (j:=((2 ^ i:Nat):Int)) rfl rfl (vQ (by decide)) (sp _ p5)))).trans (zH (vp (i:=(i:Int)) (j:=1) rfl rfl))),.fz (.int (k:Int)),?_⟩
    have q:(2:Int)*((2 ^ i:Nat):Int)=((2 ^ (i+1):Nat):Int):=by rw[Nat.pow_succ,Int.natCast_mul];omega
    rw[q];rfl
   ·have m1:min i (zB B.length)=zB B.length:=by omega
    have m2:min (i+1) (zB B.length)=zB B.length:=by omega
    rw[m1] at et hb ⊢
    rw[m2]
    rw[decide_eq_false (fun z=>Nat.lt_irrefl _ (hb.mp z))] at et
    exact⟨_,(ze2 et).trans rfl,.fz (.int (k:Int)),rfl⟩)
 rw[List.length_range,show min 6 (zB B.length)=zB B.length by omega] at e1
 have inner:∀(n:Nat) (found:List (List Nat)) (z:Sl) (s3 s6:Sl),n≤1000→∃s3' s5',forD 3 gB ((List.range (zB B.length)).map fun(k:Nat)=>D.int (k:Int)) [.fz (.tup (sT B)),.fz (.int ((zB B.length:Nat):Int)),z,s3,.ow (sT found),.fz (.int (n:Int)),.fz (.str [])]=.nx [.fz (.tup (sT B)),.fz (.int ((zB B.length:Nat):Int)),z,s3',.ow (sT found),s5',.fz (.str (jx n (zB B.length)))]:=by
  intro n found z s3 s6 hn'
  obtain ⟨ρ',e,s3',rfl⟩:=xq (i:=3) (g:=gB) (l:=List.range (zB B.length)) (enc:=fun(k:Nat)=>D.int (k:Int)) (ρ:=[.fz (.tup (sT B)),.fz (.int ((zB B.length:Nat):Int)),z,s3,.ow (sT found),.fz (.int (n:Int)),.fz (.str [])])
   (fun k ρ=>∃s,ρ=[.fz (.tup (sT B)),.fz (.int ((zB B.length:Nat):Int)),z,s,.ow (sT found),.fz (.int ((n / 2 ^ k:Nat):Int)),.fz (.str (jx n k))]) ⟨s3,by simp[jx]⟩ (fun k c ρ hc ⟨s,e⟩=>by
    subst e
    have hk:k<zB B.length:=by have:=(List.getElem?_eq_some_iff.mp hc).1;simpa using this
    have hle:n / 2 ^ k≤n:=Nat.div_le_self _ _
    have hm2:n / 2 ^ k % 2<2:=Nat.mod_lt _ (by decide)
    have e1:f2 zcS (fNm 5) (fC (.int 2)) [.fz (.tup (sT B)),.fz (.int ((zB B.length:Nat):Int)),z,.fz (.int (c:Int)),.ow (sT found),.fz (.int ((n / 2 ^ k:Nat):Int)),.fz (.str (jx n k))]=.ok (.int (((n / 2 ^ k % 2:Nat)):Int)):=by
     refine(uR (i:=((n / 2 ^ k:Nat):Int)) (j:=2) rfl rfl (by decide)).trans ?_
     have:(((n / 2 ^ k:Nat):Int)) % 2=((n / 2 ^ k % 2:Nat):Int):=by omega
     rw[this]
    have e2:ixD (.str [48,49]) (.int (((n / 2 ^ k % 2:Nat)):Int))=some (.str [48+n / 2 ^ k % 2]):=by
     have:n / 2 ^ k % 2=0∨n / 2 ^ k % 2=1:=by omega
     rcases this with q|q <;>rw[q] <;>rfl
    have e3:f2 zav (fNm 5) (fC (.int 2)) [.fz (.tup (sT B)),.fz (.int ((zB B.length:Nat):Int)),z,.fz (.int (c:Int)),.ow (sT found),.fz (.int ((n / 2 ^ k:Nat):Int)),.fz (.str (jx n (k+1)))]=.ok (.int ((n / 2 ^ (k+1):Nat):Int)):=by
     refine(kJ (i:=((n / 2 ^ k:Nat):Int)) (j:=2) rfl rfl (by decide) (vQ (by omega))).trans ?_
     have h1:n / 2 ^ (k+1)=n / 2 ^ k / 2:=by rw[Nat.pow_succ,Nat.div_div_eq_div_mul]
     have:(((n / 2 ^ k:Nat):Int)) / 2=((n / 2 ^ k / 2:Nat):Int):=by omega
     rw[h1,this]
    refine⟨_,(zx (ρ':=[.fz (.tup (sT B)),.fz (.int ((zB B.length:Nat):Int)),z,.fz (.int (c:Int)),.ow (sT found),.fz (.int ((n / 2 ^ k:Nat):Int)),.fz (.str (jx n (k+1)))]) (zH (d:=.str (jx n (k+1))) (qt (a:=[48+n / 2 ^ k % 2]) (yc (a:=.str [48,49]) rfl e1 e2) rfl (by rw[zaH];show 1+k≤_;omega)))).trans (zH e3),.fz (.int (c:Int)),rfl⟩)
  rw[List.length_range] at e
  exact⟨s3',_,e⟩
 obtain ⟨ρ2,e2,s3',s5,s6,rfl⟩:=xq (i:=5) (g:=zV (yL 6 (fC (.str []))) (zV (uz 3 (fR j9 (zb (fNm 1) zA)) gB) (zaE 4 (fNm 6)))) (l:=List.range B.length) (enc:=fun(k:Nat)=>D.int (k:Int)) (ρ:=[.fz (.tup (sT B)),.fz (.int ((zB B.length:Nat):Int)),.fz (.int ((2 ^ zB B.length:Nat):Int)),s3,.ow [],.no,.no])
  (fun k ρ=>∃s3 s5 s6,ρ=[.fz (.tup (sT B)),.fz (.int ((zB B.length:Nat):Int)),.fz (.int ((2 ^ zB B.length:Nat):Int)),s3,.ow (sT ((List.range k).map fun i=>jx i (zB B.length))),s5,s6]) ⟨s3,.no,.no,rfl⟩ (by
   rintro i k ρ hk ⟨z3,z5,z6,rfl⟩
   obtain⟨hi,ek⟩:=List.getElem?_eq_some_iff.mp hk
   rw[List.getElem_range] at ek
   subst ek
   rw[List.length_range] at hi
   obtain⟨s3',s5',ei⟩:=inner i ((List.range i).map fun i=>jx i (zB B.length)) (.fz (.int ((2 ^ zB B.length:Nat):Int))) z3 z6 (by omega)
   have rw':sT ((List.range (i+1)).map fun i=>jx i (zB B.length))=sT ((List.range i).map fun i=>jx i (zB B.length))++[.str (jx i (zB B.length))]:=by
    rw[List.range_succ,List.map_append]
    unfold sT
    rw[List.map_append]
    rfl
   rw[rw']
   exact⟨_,(zx (ρ':=[.fz (.tup (sT B)),.fz (.int ((zB B.length:Nat):Int)),.fz (.int ((2 ^ zB B.length:Nat):Int)),z3,.ow (sT ((List.range i).map fun i=>jx i (zB B.length))),.fz (.int (i:Int)),.fz (.str [])]) (zH (d:=.str []) rfl)).trans ((zx ((xQ (jc (ds:=[.int ((zB B.length:Nat):Int)]) rfl (xU (by omega)))).trans ei)).trans (zdH (ds:=sT ((List.range i).map fun i=>jx i (zB B.length))) (d:=.str (jx i (zB B.length))) rfl rfl (by rw[xG,List.length_map,List.length_range];omega))),s3',s5',_,rfl⟩)
 rw[List.length_range] at e2
 refine yq ((zx (zH (d:=.int 0) rfl)).trans ((zx (zH (d:=.int 1) rfl)).trans ((zx (vX ((xQ (jc (ds:=[.int ((6:Nat):Int)]) rfl (xU (by decide)))).trans e1))).trans ((zx (zaD (d:=[]) rfl)).trans ((zx (vX ((xQ (jc (ds:=[.int (B.length:Int)]) (zJ (zaf rfl) rfl) (xU (by omega)))).trans e2))).trans ((zed rfl).trans (xj rfl)))))))
theorem zlh:∀n<33,∀w∈W n,∀c∈w,c=48∨c=49:=by decide +kernel
theorem zgP {n:Nat}(h:Kc m n B)(h7:n≤7):wG [.int m,.tup (sT B.dropLast)]=.ok (.bl false):=by
 have bb:=h.bb h7
 obtain⟨t,_,e1,e2⟩:=h.bk.grAt
 have m2:=h.bk.m2
 have l32:=bb.l32
 have nd:=h.bk.nd
 have hne:B≠[]:=fun z=>by rw[z,List.length_nil] at e2;omega
 have sub:∀x∈B.dropLast,x∈B:=fun x hx=>(List.dropLast_sublist B).subset hx
 have ed:B.dropLast++[B.getLast hne]=B:=List.dropLast_concat_getLast hne
 have hdl:B.dropLast.length=B.length - 1:=List.length_dropLast
 have pr:Pcs m B.dropLast:=⟨m2,h.bk.m4,fun z=>by rw[z,List.length_nil] at hdl;omega,by omega,fun x hx=>bb.pcs.2.2.2.2 x (sub x hx)⟩
 refine(zbM pr).trans ?_
 cases e:isBook m B.dropLast with
 | false=>rfl
 | true =>
  have b:=zdJ pr e
  have hp:B.getLast hne∈B:=List.getLast_mem hne
  obtain⟨q,hq,z⟩:=b.cv (B.getLast hne) (h.bk.let_ _ hp)
  have qp:q=B.getLast hne:=by
   rcases z with z|z
   ·exact h.bk.pf q (sub q hq) _ hp z
   ·exact(h.bk.pf _ hp q (sub q hq) z).symm
  rw[qp] at hq
  rw[← ed] at nd
  exact absurd rfl ((List.nodup_append.mp nd).2.2 _ hq _ (by simp))
theorem zhI (B:List (List Nat)):zap (sT B) none (some (-1))=sT B.dropLast:=by
 unfold zap
 rw[HT.sIx_none,List.drop_zero,Nat.sub_zero]
 unfold sT
 rw[List.dropLast_eq_take,List.map_take]
 congr 1
 rw[List.length_map]
 show(if (-1:Int)<0 then((-1:Int)+(B.length:Int)).toNat else min (-1:Int).toNat B.length)=_
 rw[if_pos (by decide)]
 omega
theorem zcz {d:D}(h:(∃i,d=.int i)∨d=.non∨d=.bl true)(L:List (List Nat)):inQ true d (sT L)=some (.bl true):=by
 have key:inV d.toV ((sT L).map D.toV)=false:=by
  induction L with
  | nil=>rfl
  | cons a L ih =>
   show(eqV (D.str a).toV d.toV || inV d.toV ((sT L).map D.toV))=false
   rw[ih]
   rcases h with⟨i,rfl⟩|rfl|rfl <;>rfl
 unfold inQ
 rw[if_pos ⟨by rcases h with⟨i,rfl⟩|rfl|rfl <;>rfl,ziH L⟩,key]
 rfl
theorem zcU {ws:List (List Nat)}{b:Nat}(h:∀w∈ws,w.length=b):ws.flatten.length=b*ws.length:=by
 induction ws with
 | nil=>simp
 | cons w ws ih=>rw[List.flatten_cons,List.length_append,ih (fun x hx=>h x (List.mem_cons_of_mem _ hx)),h w List.mem_cons_self,List.length_cons,Nat.mul_succ];omega
theorem zeH (h:Bb m B)(h2:2≤B.length){ws:List (List Nat)}(hin:∀w∈ws,w∈W B.length)(hl:ws.length≤100){c:Nat}(hc:c≠48∧c≠49):xR [.int m,.tup (sT B),.str (ws.flatten++[c])]=.ex 4:=by
 have b1:=zk1 h2
 by_cases b:zB B.length=1
 ·have e:ws.flatten++[c]=(ws++[[c]]).flatten:=by rw[List.flatten_append];simp
  rw[e]
  have cn:[c]∉W B.length:=fun z=>by
   have:=zlh B.length (by have:=h.l32;omega) _ z c (by simp)
   omega
  rcases zaM h h2 (ws:=ws++[[c]]) (fun w hw=>by
   rcases List.mem_append.mp hw with z|z
   ·exact zdx (hin w z)
   ·rw[List.mem_singleton.mp z,b];rfl) (by rw[List.length_append];simp;omega) with⟨a,_⟩|⟨_,e⟩
  ·exact absurd (a [c] (by simp)) cn
  ·exact e
 ·refine jU (za7 h (zmc (jo (b:=true) (xH rfl)) (xH (yc (a:=.int 1) (b:=.int 0) ((uR (i:=((ws.flatten++[c]).length:Int)) (j:=((zB B.length:Nat):Int)) rfl rfl (by omega)).trans ?_) rfl rfl)))) (.inr ⟨_,rfl⟩)
  have fl:=zcU (fun w hw=>zdx (hin w hw))
  rw[List.length_append,fl]
  have:((zB B.length*ws.length + [c].length:Nat):Int) % ((zB B.length:Nat):Int)=1:=by
   rw[← Int.natCast_emod,Nat.mul_add_mod,Nat.mod_eq_of_lt (by show 1<_;omega)];rfl
  rw[this]
theorem jA {b c e:D}{n:Nat}(h:xR [.int m,b,c]=.ex n):vo [.int m,b,c,e]=.ex n:=wC (ur (kZ (cA3 (a:=.int m) (b:=b) (c:=c) rfl rfl rfl h)))
theorem zbf {b c e:D}{n:Nat}(h:wF [.int m,b,c]=.ex n):um [.int m,b,c,e]=.ex n:=by
 refine wC (ur ?_)
 unfold yL
 rw[cA3 (a:=.int m) (b:=b) (c:=c) rfl rfl rfl h]
theorem zd2 {b c e:D}{n:Nat}{w:D}(h1:wF [.int m,b,c]=.ok w)(h:wF [.int m,b,e]=.ex n):um [.int m,b,c,e]=.ex n:=by
 refine wC ((zx (zH (cA3 (a:=.int m) (b:=b) (c:=c) rfl rfl rfl h1))).trans (ur ?_))
 unfold yL
 rw[cA3 (a:=.int m) (b:=b) (c:=e) rfl rfl rfl h]
theorem zfW {b:D}(h:wG [.int m,b]=.ok (.bl false)):kh [.int m,b]=.ex 1:=wC (ur (kZ (cA2 (a:=.int m) (b:=b) rfl rfl (qU h))))
theorem zfi (hk:Kc m 5 B){ws:List (List Nat)}(hin:∀w∈ws,w∈W B.length)(hl:ws.length≤5):uw [.int m,.tup (sT B),.str ws.flatten]=.ok (.bl true):=by
 have h:=hk.bb (by decide)
 obtain⟨t,_,eg1,eg2⟩:=hk.bk.grAt
 have m2:=hk.bk.m2
 have h2:2≤B.length:=by omega
 have b5:=jX B.length
 have fl:=zcU (fun w hw=>zdx (hin w hw))
 have fm:zB B.length*ws.length≤5*5:=Nat.mul_le_mul b5 hl
 have e1:xR [.int m,.tup (sT B),.str ws.flatten]=.ok (.str (ws.map (pc B)).flatten):=by
  rcases zaM h h2 (fun w hw=>zdx (hin w hw)) (by omega) with⟨_,e⟩|⟨⟨w,hw,hn⟩,_⟩
  ·exact e
  ·exact absurd (hin w hw) hn
 have hp0:B.getD 0 []∈B:=getD_mem (by omega)
 have a0:f2 ixD (fNm 1) (fC (.int 0))=f2 ixD (fNm 1) (fC (.int 0)):=rfl
 obtain ⟨ρ1,eL,s3,rfl⟩:=xq (i:=3) (l:=([.int (-1),.int (ws.flatten.length:Int),.non,.bl true,.str [48]]:List D)) (enc:=id) (g:=zV (sIf (bT (f2 (eqD true) (fA (ari 5 zK) (zb (fC (.int 0)) (zb (fNm 0) (zb (fNm 1) (zb (fNm 2) (zb (fNm 3) zA)))))) (fO mkT (zb (fC (.str [114,101,102,117,115,101,100])) (zb (fC (.int 2)) zA)))))
  (yO (fC (.bl false)))
  sNx)
  (zV (sIf (bT (f2 (eqD true) (fA (ari 5 zK) (zb (fC (.int 2)) (zb (fNm 0) (zb (fNm 1) (zb (fNm 3) (zb (fC .non) zA)))))) (fO mkT (zb (fC (.str [114,101,102,117,115,101,100])) (zb (fC (.int 3)) zA)))))
  (yO (fC (.bl false)))
  sNx)
  (sIf (bT (f2 (eqD true) (fA (ari 5 zK) (zb (fC (.int 2)) (zb (fNm 0) (zb (fNm 1) (zb (f2 ixD (fNm 1) (fC (.int 0))) (zb (fNm 3) zA)))))) (fO mkT (zb (fC (.str [114,101,102,117,115,101,100])) (zb (fC (.int 3)) zA)))))
  (yO (fC (.bl false)))
  sNx))) (ρ:=[.fz (.int m),.fz (.tup (sT B)),.fz (.str ws.flatten),.no]) (fun _ ρ=>∃s3,ρ=[.fz (.int m),.fz (.tup (sT B)),.fz (.str ws.flatten),s3]) ⟨.no,rfl⟩ (by
   rintro i d ρ hd' ⟨z,rfl⟩
   have hd:=List.mem_of_getElem? hd'
   have bt:xr [d,.int 0,.int ((ws.flatten.length:Int) - 1)]=.ok (.bl false):=by
    simp only[List.mem_cons,List.not_mem_nil,or_false] at hd
    rcases hd with rfl|rfl|rfl|rfl|rfl
    ·exact(vM _ _ _).trans rfl
    ·refine(vM _ _ _).trans ?_
     rw[decide_eq_false (show ¬(ws.flatten.length:Int)≤(ws.flatten.length:Int) - 1 by omega),Bool.and_false]
    ·rfl
    ·rfl
    ·rfl
   have nb:inD true d (.tup (sT B))=some (.bl true):=by
    show inQ true d (sT B)=_
    simp only[List.mem_cons,List.not_mem_nil,or_false] at hd
    rcases hd with rfl|rfl|rfl|rfl|rfl
    ·exact zcz (.inl ⟨_,rfl⟩) B
    ·exact zcz (.inl ⟨_,rfl⟩) B
    ·exact zcz (.inr (.inl rfl)) B
    ·exact zcz (.inr (.inr rfl)) B
    ·refine zkq fun z=>?_
     have:=hk.bk.let_ _ z 48 (by simp)
     omega
   have f1:vo [.int m,.tup (sT B),.str ws.flatten,d]=.ex 5:=wC ((zx (v7 (cA3 (a:=.int m) (b:=.tup (sT B)) (c:=.str ws.flatten) rfl rfl rfl e1))).trans (ur (kZ (cA3 (a:=d) (b:=.int 0) (c:=.int ((ws.flatten.length:Int) - 1)) rfl rfl (len_sub rfl) (zei bt)))))
   have f2':=zbf (e:=.non) (zeR h nb)
   have f3:=zd2 (jW h.pcs h.isB hp0) (zeR h nb)
   exact⟨_,(zx (ifF (xH (yc (a:=rf 2) (b:=rf 2) (cA5 (a:=.int 0) (b:=.int m) (c:=.tup (sT B)) (d:=.str ws.flatten) (k:=d) rfl rfl rfl rfl rfl (zdC (tl2 f1))) rfl rfl)))).trans ((zx (ifF (xH (yc (a:=rf 3) (b:=rf 3) (cA5 (a:=.int 2) (b:=.int m) (c:=.tup (sT B)) (d:=d) (k:=.non) rfl rfl rfl rfl rfl (zhS (tl3 f2'))) rfl rfl)))).trans (ifF (xH (yc (a:=rf 3) (b:=rf 3) (cA5 (a:=.int 2) (b:=.int m) (c:=.tup (sT B)) (d:=.str (B.getD 0 [])) (k:=d) rfl rfl rfl (yc (a:=.tup (sT B)) (b:=.int ((0:Nat):Int)) rfl rfl (zff (by omega))) rfl (zhS (tl3 f3))) rfl rfl)))),_,rfl⟩)
 have x1:xR [.int m,.tup (sT B),.str (ws.flatten++[120])]=.ex 4:=zeH h h2 hin (by omega) (by decide)
 have x2:xR [.int m,.tup (sT B),.str (ws.flatten++[50])]=.ex 4:=zeH h h2 hin (by omega) (by decide)
 have x3:xR [.int m,.tup (sT B),.non]=.ex 4:=jU (zhh h) (.inr ⟨_,rfl⟩)
 have x4:xR [.int m,.tup (sT B),.int 1]=.ex 4:=jU (za7 h (zlt (jo (b:=false) (xH rfl)))) (.inr ⟨_,rfl⟩)
 have nb:=zgP hk (by decide)
 refine yq ((zx (vX ((xQ (ds:=([.int (-1),.int (ws.flatten.length:Int),.non,.bl true,.str [48]]:List D).map id) rfl).trans eL))).trans ((zx (ifF (xH (yc (a:=.lst [rf 1,rf 1,rf 1,rf 1]) (b:=.lst [rf 1,rf 1,rf 1,rf 1]) (vL (ds:=[.str (ws.flatten++[120]),.str (ws.flatten++[50]),.non,.int 1]) ?_ (by show 4≤1000000;decide) (zbj rfl (cA5 (a:=.int 0) (b:=.int m) (c:=.tup (sT B)) (d:=.str (ws.flatten++[120])) (k:=.non) rfl rfl rfl rfl rfl (zdC (tl1 (jA x1)))) (zbj rfl (cA5 (a:=.int 0) (b:=.int m) (c:=.tup (sT B)) (d:=.str (ws.flatten++[50])) (k:=.non) rfl rfl rfl rfl rfl (zdC (tl1 (jA x2)))) (zbj rfl (cA5 (a:=.int 0) (b:=.int m) (c:=.tup (sT B)) (d:=.non) (k:=.non) rfl rfl rfl rfl rfl (zdC (tl1 (jA x3)))) (zbj rfl (cA5 (a:=.int 0) (b:=.int m) (c:=.tup (sT B)) (d:=.int 1) (k:=.non) rfl rfl rfl rfl rfl (zdC (tl1 (jA x4)))) rfl))))) rfl rfl)))).trans (xj (yc (a:=.lst [rf 0,rf 0,rf 0]) (b:=.lst [rf 0,rf 0,rf 0]) (vL (ds:=[.int 0,.int 1,.int 2]) rfl (by show 3≤1000000;decide) ?_) rfl rfl))))
 ·exact zjU (a:=.tup [.str (ws.flatten++[120]),.str (ws.flatten++[50]),.non,.int 1]) (zao (ds:=[.str (ws.flatten++[120]),.str (ws.flatten++[50]),.non,.int 1]) (zJ (qt rfl rfl (by rw[fl];show _+1≤_;omega)) (zJ (qt rfl rfl (by rw[fl];show _+1≤_;omega)) rfl)) rfl) rfl
 ·have ei:∀(w:Int) (s:Sl),fSl (fNm 2) yF (zY (f1 zkM (fC (.int 1)))) [.fz (.int w),.fz (.int m),.fz (.tup (sT B))]=.ok (.tup (sT B.dropLast)):=fun w s=>zbP (a:=.tup (sT B)) (l:=none) (h:=some (-1)) rfl rfl rfl (by show some (D.tup (zap (sT B) none (some (-1))))=_;rw[zhI])
  exact zbj rfl (cA5 (a:=.int 0) (b:=.int m) (c:=.tup (sT B.dropLast)) (d:=.non) (k:=.non) rfl rfl (ei 0 .no) rfl rfl (zdC (tl0 (jA (jU (zh3 nb) (.inr ⟨_,rfl⟩)))))) (zbj rfl (cA5 (a:=.int 1) (b:=.int m) (c:=.tup (sT B.dropLast)) (d:=.non) (k:=.non) rfl rfl (ei 1 .no) rfl rfl (zlk (tl0 (zfW nb)))) (zbj rfl (cA5 (a:=.int 2) (b:=.int m) (c:=.tup (sT B.dropLast)) (d:=.non) (k:=.non) rfl rfl (ei 2 .no) rfl rfl (zhS (tl0 (zbf (zig nb))))) rfl))
theorem zih {ws:List (List Nat)}{b:Nat}(h:∀w∈ws,w.length=b)(hb1:1≤b)(hl:ws.length≤1000)(hb5:b≤5){ρ:Rho}(e8:ρ[8]? = some (.fz (.str ws.flatten)))(e4:ρ[4]? = some (.fz (.int (b:Int)))):fCp (fR zhm (zb (fC (.int 0)) (zb (fO vd (zb (fNm 8) zA)) (zb (fNm 4) zA)))) wj (fSl (fNm 1) (zY (fNm 0)) (zY (f2 v5 (fNm 0) (fNm 2)))) [8,4] ρ=.ok (sT ws):=by
 have hlen:ws.flatten.length=ws.length*b:=by rw[zcU h,Nat.mul_comm]
 have hmul:ws.length*b≤1000*5:=Nat.mul_le_mul hl hb5
 have hcut:=ziY ws b h
 have n8:fNm 8 ρ=.ok (.str ws.flatten):=by unfold fNm;rw[e8]
 have n4:fNm 4 ρ=.ok (.int (b:Int)):=by unfold fNm;rw[e4]
 have er:zhm [.int 0,.int (ws.flatten.length:Int),.int (b:Int)]=some ((List.range ws.length).map fun(k:Nat)=>.int (0+(k:Int)*(b:Int))):=by
  dsimp only [zhm]
  rw[if_pos (by omega)]
  have:(((ws.flatten.length:Int)) - 0+(b:Int) - 1) / (b:Int)=(ws.length:Int):=by
   rw[hlen,Int.natCast_mul]
   have e1:(ws.length:Int)*(b:Int) - 0+(b:Int) - 1=((b:Int) - 1)+(ws.length:Int)*(b:Int):=by omega
   rw[e1,Int.add_mul_ediv_right _ _ (by omega),Int.ediv_eq_zero_of_lt (by omega) (by omega)]
   omega
  rw[this];rfl
 have cp:vY 1 [8,4] ρ=[.no,.fz (.str ws.flatten),.fz (.int (b:Int))]:=by
  unfold vY
  simp[e8,e4]
 refine zeU (ds:=(List.range ws.length).map fun(k:Nat)=>.int (0+(k:Int)*(b:Int))) (jc (ds:=[.int 0,.int (ws.flatten.length:Int),.int (b:Int)]) (zJ rfl (zJ (zao (ds:=[.str ws.flatten]) (zJ n8 rfl) rfl) (zJ n4 rfl))) er) (by rw[List.length_map,List.length_range];omega) ?_
 rw[cp]
 have:=yR (fe:=fSl (fNm 1) (zY (fNm 0)) (zY (f2 v5 (fNm 0) (fNm 2)))) (ρ0:=[.no,.fz (.str ws.flatten),.fz (.int (b:Int))]) (l:=List.range ws.length) (enc:=fun(k:Nat)=>D.int (0+(k:Int)*(b:Int))) (fun i=>.str (ws.getD i [])) fun i hi=>by
  have hi':=List.mem_range.mp hi
  have e1:(0+(i:Int)*(b:Int))=((i*b:Nat):Int):=by rw[Int.natCast_mul];omega
  have e2:(0+(i:Int)*(b:Int))+(b:Int)=((i*b+b:Nat):Int):=by rw[Int.natCast_add,Int.natCast_mul];omega
  refine zbP (a:=.str ws.flatten) (l:=some (0+(i:Int)*(b:Int))) (h:=some ((0+(i:Int)*(b:Int))+(b:Int))) rfl rfl rfl ?_
  show some (D.str (zap ws.flatten (some (0+(i:Int)*(b:Int))) (some ((0+(i:Int)*(b:Int))+(b:Int)))))=_
  rw[e2,e1,hcut i hi',List.getD_eq_getElem?_getD,List.getElem?_eq_getElem hi'];rfl
 have e3:sT ws=(List.range ws.length).map fun i=>.str (ws.getD i []):=by
  refine List.ext_getElem (by simp[sT]) fun j h1 h2=>?_
  have hj:j<ws.length:=by rw[xG] at h1;exact h1
  simp[sT,hj]
 rw[e3];exact this
theorem zi7 {L:List (List Nat)}{w:List Nat}(h:w∈L)(hl:L.length≤1000):zgc (.lst (sT L)) (.str w)=some (.int ((L.idxOf w:Nat):Int)):=by
 dsimp only [zgc]
 rw[j8,if_pos ⟨j5 _,by rw[xG];exact hl,h⟩]
theorem zet {fs fp:Rho→Rs D}{ρ:Rho}{l:List Nat}{k:Nat}(h:k<l.length)(e1:fs ρ=.ok (.str l))(e2:fp ρ=.ok (.int (k:Int))):fIf (bT (f2 (eqD false) (f2 ixD fs fp) (fC (.str [48])))) (fC (.str [49])) (fC (.str [48])) ρ=.ok (.str [oth (l.getD k 0)]):=by
 have ei:f2 ixD fs fp ρ=.ok (.str [l.getD k 0]):=yc e1 e2 (zbO h)
 have et:bT (f2 (eqD false) (f2 ixD fs fp) (fC (.str [48]))) ρ=.ok (decide ([l.getD k 0]=[48])):=xH (yc (b:=.str [48]) ei rfl (jq false _ _))
 unfold oth
 by_cases c:l.getD k 0=48
 ·rw[if_pos c]
  exact zjz (by rw[et,c];rfl) rfl
 ·rw[if_neg c]
  exact zgz (by rw[et,decide_eq_false (fun z=>c (by injection z))]) rfl
abbrev zar (ns:List Int)(m:Nat)(B ws:List (List Nat))(s5 s7 s8 s9 s10 s11 s12 s13 s14 s15:Sl):Rho:=[.fz (scD ns),.fz (.int m),.fz (.tup (sT B)),.fz (.lst (sT (W B.length))),.fz (.int ((zB B.length:Nat):Int)),s5,.fz (.str ws.flatten),s7,s8,s9,s10,s11,s12,s13,s14,s15]
abbrev gP:Rho→Out:=zV (yL 8 (f2 q9 (f2 q9 (fSl (fNm 6) yF (zY (fNm 7))) (fIf (bT (f2 (eqD false) (f2 ixD (fNm 6) (fNm 7)) (fC (.str [48])))) (fC (.str [49])) (fC (.str [48])))) (fSl (fNm 6) (zY (f2 v5 (fNm 7) (fC (.int 1)))) yF)))
  (zV (vJ 9 (fCp (fR zhm (zb (fC (.int 0)) (zb (fO vd (zb (fNm 8) zA)) (zb (fNm 4) zA)))) wj (fSl (fNm 1) (zY (fNm 0)) (zY (f2 v5 (fNm 0) (fNm 2)))) [8,4]))
  (zV (yL 10 (fO mkT (zb (fC (.str [114,101,102,117,115,101,100])) (zb (fC (.int 1)) zA))))
  (zV (sIf (bT (f2 (eqD false) (xN (fI lsD (fNm 9)) (bT (f2 (inD true) (fNm 0) (fNm 1))) (fNm 0) [3]) (fO mkL zA)))
  (yL 10 (fM isS za5 (fC (.str [])) (xN (fI lsD (fNm 9)) wj (f2 ixD (fNm 1) (fM ziM zgc (fNm 2) (fNm 0))) [2,3])))
  sNx)
  (sIf (bT (f2 (eqD true) (fA (ari 5 zK) (zb (fC (.int 0)) (zb (fNm 1) (zb (fNm 2) (zb (fNm 6) (zb (fNm 7) zA)))))) (fNm 10)))
  (yO (fC (.bl false)))
  sNx))))
theorem zdI (ns:List Int)(hk:Kc m 5 B){ws:List (List Nat)}(hin:∀w∈ws,w∈W B.length)(hl:ws.length≤5)(s5:Sl):∃s7 s8 s9 s10,forD 7 gP ((List.range ws.flatten.length).map fun(k:Nat)=>D.int (k:Int)) (zar ns m B ws s5 .no .no .no .no .no .no .no .no .no)=.nx (zar ns m B ws s5 s7 s8 s9 s10 .no .no .no .no .no):=by
 have h:=hk.bb (by decide)
 obtain⟨t,_,eg1,eg2⟩:=hk.bk.grAt
 have m2:=hk.bk.m2
 have h2:2≤B.length:=by omega
 have b5:=jX B.length
 have b1:=zk1 h2
 have l32:=h.l32
 have fl:=zcU (fun w hw=>zdx (hin w hw))
 have fm:zB B.length*ws.length≤5*5:=Nat.mul_le_mul b5 hl
 obtain ⟨ρ',e,s7,s8,s9,s10,rfl⟩:=xq (i:=7) (g:=gP) (l:=List.range ws.flatten.length) (enc:=fun(k:Nat)=>D.int (k:Int)) (ρ:=zar ns m B ws s5 .no .no .no .no .no .no .no .no .no)
  (fun _ ρ=>∃s7 s8 s9 s10,ρ=zar ns m B ws s5 s7 s8 s9 s10 .no .no .no .no .no) ⟨.no,.no,.no,.no,rfl⟩ (by
   rintro i k ρ hk' ⟨z7,z8,z9,z10,rfl⟩
   obtain⟨hi,ek⟩:=List.getElem?_eq_some_iff.mp hk'
   rw[List.getElem_range] at ek
   subst ek
   rw[List.length_range] at hi
   have es:f2 q9 (f2 q9 (fSl (fNm 6) yF (zY (fNm 7))) (fIf (bT (f2 (eqD false) (f2 ixD (fNm 6) (fNm 7)) (fC (.str [48])))) (fC (.str [49])) (fC (.str [48])))) (fSl (fNm 6) (zY (f2 v5 (fNm 7) (fC (.int 1)))) yF) (zar ns m B ws s5 (.fz (.int (i:Int))) z8 z9 z10 .no .no .no .no .no)=.ok (.str (flip ws.flatten i)):=zbT hi (by omega) rfl rfl (zet hi rfl rfl)
   obtain⟨us,u1,u2,u3⟩:=parts (zB B.length) ws.length (flip ws.flatten i) (by rw[zie hi,fl])
   have sp:sT us=us.map D.str:=rfl
   have ec:=zih (ρ:=zar ns m B ws s5 (.fz (.int (i:Int))) (.fz (.str us.flatten)) z9 z10 .no .no .no .no .no) u2 b1 (by omega) b5 rfl rfl
   rw[u1] at ec
   have ef:xN (fI lsD (fNm 9)) (bT (f2 (inD true) (fNm 0) (fNm 1))) (fNm 0) [3] (zar ns m B ws s5 (.fz (.int (i:Int))) (.fz (.str (flip ws.flatten i))) (.fz (.lst (sT us))) (.fz (rf 1)) .no .no .no .no .no)=.ok (.lst (sT (us.filter fun w=>decide (w∉W B.length)))):=vL (ds:=sT us) rfl (by rw[xG];omega) (zaL (fun w=>decide (w∉W B.length)) D.str fun w _=>⟨xH (zmx (n:=B.length) (x:=w) rfl rfl),fun _=>rfl⟩)
   have hb:=zaM h h2 u2 (by omega)
   rw[u1] at hb
   rcases hb with⟨all,eb⟩|⟨⟨w,hw,hn⟩,eb⟩
   ·have ft:=zbH h h2 hin (by omega) hi (.inl ⟨_,rfl⟩) eb
    have eF:(us.filter fun w=>decide (w∉W B.length))=[]:=List.filter_eq_nil_iff.mpr fun w hw=>by simp[all w hw]
    rw[eF] at ef
    have ej:fM isS za5 (fC (.str [])) (xN (fI lsD (fNm 9)) wj (f2 ixD (fNm 1) (fM ziM zgc (fNm 2) (fNm 0))) [2,3]) (zar ns m B ws s5 (.fz (.int (i:Int))) (.fz (.str (flip ws.flatten i))) (.fz (.lst (sT us))) (.fz (rf 1)) .no .no .no .no .no)=.ok (.str (us.map (pc B)).flatten):=by
     have l8:(us.map (pc B)).flatten.length≤8*us.length:=by
      clear eF ef eb ec sp u1 u2 u3 ft
      induction us with
      | nil=>simp
      | cons w us ih =>
       have:=ih fun x hx=>all x (List.mem_cons_of_mem _ hx)
       have:=h.l8 _ (zfA (all w List.mem_cons_self))
       rw[List.map_cons,List.flatten_cons,List.length_append,List.length_cons]
       omega
     refine zls ?_ (by omega)
     have em:sT (us.map (pc B))=us.map fun w=>D.str (pc B w):=by unfold sT;rw[List.map_map];rfl
     rw[em]
     refine vL (ds:=sT us) rfl (by rw[xG];omega) (yR (fun w=>D.str (pc B w)) fun w hw=>?_)
     have hi':=List.idxOf_lt_length_iff.mpr (all w hw)
     rw[jP] at hi'
     exact yc (a:=.tup (sT B)) (b:=.int (((W B.length).idxOf w:Nat):Int)) rfl (zho (a:=.lst (sT (W B.length))) (b:=.str w) rfl rfl rfl (zi7 (all w hw) (by rw[jP];omega))) (zff hi')
    exact⟨_,(zx (zH es)).trans ((zx (zcp ec)).trans ((zx (zH (d:=rf 1) rfl)).trans ((zx ((zbx (xH (yc (a:=.lst (sT [])) (b:=.lst (sT [])) ef rfl (zbS false [] [])))).trans (zH ej))).trans (ifF (xH (yc (a:=.str (us.map (pc B)).flatten) (b:=.str (us.map (pc B)).flatten) (cA5 (a:=.int 0) (b:=.int m) (c:=.tup (sT B)) (d:=.str ws.flatten) (k:=.int (i:Int)) rfl rfl rfl rfl rfl (zdC (tl ft))) rfl (znn _))))))),_,_,_,_,rfl⟩
   ·have ft:=zbH h h2 hin (by omega) hi (.inr ⟨_,rfl⟩) eb
    have eF:(us.filter fun w=>decide (w∉W B.length))≠[]:=fun z=>by
     have:=List.filter_eq_nil_iff.mp z w hw
     simp[hn] at this
    exact⟨_,(zx (zH es)).trans ((zx (zcp ec)).trans ((zx (zH (d:=rf 1) rfl)).trans ((zx (ifF (xH (yc (b:=.lst (sT [])) ef rfl ((zbS false _ []).trans (by rw[decide_eq_false eF];rfl)))))).trans (ifF (xH (yc (a:=rf 1) (b:=rf 1) (cA5 (a:=.int 0) (b:=.int m) (c:=.tup (sT B)) (d:=.str ws.flatten) (k:=.int (i:Int)) rfl rfl rfl rfl rfl (zdC (tl1 ft))) rfl rfl)))))),_,_,_,_,rfl⟩)
 exact⟨s7,s8,s9,s10,e⟩
abbrev gR:Rho→Out:=zV (yL 8 (f2 q9 (f2 q9 (fSl (fNm 12) yF (zY (fNm 7))) (fIf (bT (f2 (eqD false) (f2 ixD (fNm 12) (fNm 7)) (fC (.str [48])))) (fC (.str [49])) (fC (.str [48])))) (fSl (fNm 12) (zY (f2 v5 (fNm 7) (fC (.int 1)))) yF)))
  (yL 11 (fLs (fL2 zf8 (fNm 11) (fLs (fL2 zkb (fO mkL (zb (fO mkT (zb (fNm 12) (zb (fNm 7) zA))) zA)) (fO intD (zb (f2 (inD true) (fNm 8) (fNm 3)) zA)))))))
theorem zfQ (ns:List Int)(hk:Kc m 5 B){ws:List (List Nat)}(s5 s7 s8 s9 s10:Sl):∃s7' s8' s12,forD 12 (uz 7 (fR j9 (zb (fNm 4) zA))
  gR) (sT (W B.length)) (zar ns m B ws s5 s7 s8 s9 s10 (.fz (.lst [])) .no .no .no .no)=.nx (zar ns m B ws s5 s7' s8' s9 s10 (.fz (.lst ((R B.length).map rwD))) s12 .no .no .no):=by
 have h:=hk.bb (by decide)
 have hl:=hk.len (by decide)
 have b5:=jX B.length
 have inner:∀(w:List Nat) (rows:List (List Nat×Nat)) (s7 s8:Sl),w∈W B.length→rows.length≤100→∃s7' s8',forD 7 gR ((List.range (zB B.length)).map fun(k:Nat)=>D.int (k:Int)) (zar ns m B ws s5 s7 s8 s9 s10 (.fz (.lst (rows.map rwD))) (.fz (.str w)) .no .no .no)=.nx (zar ns m B ws s5 s7' s8' s9 s10 (.fz (.lst ((rows++rowsOf B.length w (zB B.length)).map rwD))) (.fz (.str w)) .no .no .no):=by
  intro w rows s7 s8 hw hr
  have wl:=zdx hw
  obtain ⟨ρ',e,s7',s8',rfl⟩:=xq (i:=7) (g:=gR) (l:=List.range (zB B.length)) (enc:=fun(k:Nat)=>D.int (k:Int)) (ρ:=zar ns m B ws s5 s7 s8 s9 s10 (.fz (.lst (rows.map rwD))) (.fz (.str w)) .no .no .no)
   (fun k ρ=>∃s7 s8,ρ=zar ns m B ws s5 s7 s8 s9 s10 (.fz (.lst ((rows++rowsOf B.length w k).map rwD))) (.fz (.str w)) .no .no .no) ⟨s7,s8,by rw[show rowsOf B.length w 0=[] from rfl,List.append_nil]⟩ (by
    rintro i k ρ hk ⟨z7,z8,rfl⟩
    obtain⟨hi,ek⟩:=List.getElem?_eq_some_iff.mp hk
    rw[List.getElem_range] at ek
    subst ek
    rw[List.length_range] at hi
    have rl:=zgT B.length w i
    have es:f2 q9 (f2 q9 (fSl (fNm 12) yF (zY (fNm 7))) (fIf (bT (f2 (eqD false) (f2 ixD (fNm 12) (fNm 7)) (fC (.str [48])))) (fC (.str [49])) (fC (.str [48])))) (fSl (fNm 12) (zY (f2 v5 (fNm 7) (fC (.int 1)))) yF) (zar ns m B ws s5 (.fz (.int (i:Int))) z8 s9 s10 (.fz (.lst ((rows++rowsOf B.length w i).map rwD))) (.fz (.str w)) .no .no .no)=.ok (.str (flip w i)):=zbT (by omega) (by omega) rfl rfl (zet (by omega) rfl rfl)
    have ei:fO intD (zb (f2 (inD true) (fNm 8) (fNm 3)) zA) (zar ns m B ws s5 (.fz (.int (i:Int))) (.fz (.str (flip w i))) s9 s10 (.fz (.lst ((rows++rowsOf B.length w i).map rwD))) (.fz (.str w)) .no .no .no)=.ok (.int (if flip w i∉W B.length then 1 else 0)):=by
     refine zao (ds:=[.bl (decide (flip w i∉W B.length))]) (zJ (zmx rfl rfl) rfl) ?_
     by_cases c:flip w i∉W B.length
     ·rw[if_pos c,decide_eq_true c];rfl
     ·rw[if_neg c,decide_eq_false c];rfl
    have er:fLs (fL2 zkb (fO mkL (zb (fO mkT (zb (fNm 12) (zb (fNm 7) zA))) zA)) (fO intD (zb (f2 (inD true) (fNm 8) (fNm 3)) zA))) (zar ns m B ws s5 (.fz (.int (i:Int))) (.fz (.str (flip w i))) s9 s10 (.fz (.lst ((rows++rowsOf B.length w i).map rwD))) (.fz (.str w)) .no .no .no)=.ok (.lst ((if flip w i∉W B.length then[(w,i)] else[]).map rwD)):=by
     refine zc2 (zix (a:=.lst [rwD (w,i)]) rfl ei ?_)
     by_cases c:flip w i∉W B.length
     ·rw[if_pos c,if_pos c];rfl
     ·rw[if_neg c,if_neg c];rfl
    rw[zaO,← List.append_assoc]
    have e4:(rows++rowsOf B.length w i++(if flip w i∉W B.length then[(w,i)] else[])).map rwD=(rows++rowsOf B.length w i).map rwD++(if flip w i∉W B.length then[(w,i)] else[]).map rwD:=List.map_append
    rw[e4]
    have il:(if flip w i∉W B.length then[(w,i)] else[]).length≤1:=by split <;>simp
    exact⟨_,(zx (zH es)).trans (zH (zc2 (zix (a:=.lst ((rows++rowsOf B.length w i).map rwD)) rfl er (zkC (by rw[List.length_map,List.length_map,List.length_append];omega))))),_,_,rfl⟩)
  rw[List.length_range] at e
  exact⟨s7',s8',e⟩
 obtain ⟨ρ',e,s7',s8',s12,rfl⟩:=xq (i:=12) (g:=uz 7 (fR j9 (zb (fNm 4) zA)) gR) (l:=W B.length) (enc:=D.str) (ρ:=zar ns m B ws s5 s7 s8 s9 s10 (.fz (.lst [])) .no .no .no .no)
  (fun k ρ=>∃s7 s8 s12,ρ=zar ns m B ws s5 s7 s8 s9 s10 (.fz (.lst ((((W B.length).take k).flatMap fun w=>rowsOf B.length w (zB B.length)).map rwD))) s12 .no .no .no) ⟨s7,s8,.no,by rw[List.take_zero];rfl⟩ (by
   rintro k w ρ hk ⟨z7,z8,z12,rfl⟩
   have hw:=List.mem_of_getElem? hk
   have e3:(W B.length).take (k+1)=(W B.length).take k++[w]:=by rw[List.take_add_one,hk];rfl
   have rl:=zl1 (n:=B.length) ((W B.length).take k)
   have tl:((W B.length).take k).length≤B.length:=by rw[List.length_take,jP];omega
   have ml:((W B.length).take k).length*zB B.length≤16*5:=Nat.mul_le_mul (by omega) b5
   obtain⟨s7',s8',ei⟩:=inner w (((W B.length).take k).flatMap fun w=>rowsOf B.length w (zB B.length)) z7 z8 hw (by omega)
   rw[e3,List.flatMap_append,List.flatMap_singleton]
   exact⟨_,(xQ (jc (ds:=[.int ((zB B.length:Nat):Int)]) rfl (xU (by omega)))).trans ei,_,_,_,rfl⟩)
 rw[List.take_of_length_le (Nat.le_refl _)] at e
 exact⟨s7',s8',s12,e⟩
theorem zcy {ft:Rho→Rs Bool}{fe:Rho→Rs D}{ρ0:Rho}(c:Nat→Nat→Bool)(e:D)(h:∀x y,ft ((ρ0.set 0 (.fz (.str [x]))).set 1 (.fz (.str [y])))=.ok (c x y)∧fe ((ρ0.set 0 (.fz (.str [x]))).set 1 (.fz (.str [y])))=.ok e):∀(a b:List Nat),wJ ft fe ρ0 (a.map fun x=>.str [x]) (b.map fun x=>.str [x])=.ok (List.replicate ((a.zip b).filter fun z=>c z.1 z.2).length e)
 | [],_=>by unfold wJ;rfl
 | _::_,[]=>by unfold wJ;rfl
 | x::a,y::b=>by
  rw[List.map_cons,List.map_cons]
  unfold wJ
  obtain⟨h1,h2⟩:=h x y
  rw[h1,List.zip_cons_cons,List.filter_cons]
  cases hc:c x y with
  | false =>
   rw[if_neg Bool.false_ne_true]
   exact zcy c e h a b
  | true =>
   rw[if_pos rfl]
   dsimp only
   rw[h2,zcy c e h a b]
   rfl
theorem zk6 {fa fb:Rho→Rs D}{ρ:Rho}{a b:List Nat}(ea:fa ρ=.ok (.str a))(eb:fb ρ=.ok (.str b))(hab:a.length=b.length)(hl:a.length≤5)(ha:∀c∈a,c=48∨c=49)(hb:∀c∈b,c=48∨c=49):fO vd (zb (fLs (zhk fa fb (bT (f2 (eqD true) (fNm 0) (fNm 1))) (fC (.int 1)) [])) zA) ρ=.ok (.int (dist a b:Nat)):=by
 have g:∀l:List Nat,(∀c∈l,c=48∨c=49)→gz (.str l)=some (l.map fun c=>.str [c]):=fun l h=>by
  show(if l.all (· < 128) then some (l.map fun c=>D.str [c]) else none)=_
  rw[if_pos]
  rw[List.all_eq_true]
  intro c hc
  have:=h c hc
  exact decide_eq_true (by omega)
 have ec:wJ (bT (f2 (eqD true) (fNm 0) (fNm 1))) (fC (.int 1)) (vY 2 [] ρ) (a.map fun x=>.str [x]) (b.map fun x=>.str [x])=.ok (List.replicate (((a.zip b).filter fun z=>decide (z.1≠z.2)).length) (.int 1)):=zcy (ft:=bT (f2 (eqD true) (fNm 0) (fNm 1))) (fe:=fC (.int 1)) (ρ0:=[.no,.no]) (fun x y=>decide (x≠y)) (.int 1) (fun x y=>⟨xH (yc (a:=.str [x]) (b:=.str [y]) rfl rfl ((jq true _ _).trans (by by_cases c:x=y <;>simp[c]))),rfl⟩) a b
 refine zao (ds:=[.lst (List.replicate (((a.zip b).filter fun z=>decide (z.1≠z.2)).length) (.int 1))]) (zJ (zc2 (zjH ea eb (g a ha) (g b hb) (by rw[List.length_map];omega) ec)) rfl) ?_
 show some (D.int ((List.replicate (((a.zip b).filter fun z=>decide (z.1≠z.2)).length) (D.int 1)).length:Int))=_
 rw[List.length_replicate,zej a b hab]
theorem zhR (ns:List Int)(hn:ns.length≤63):ziw [.lst (ns.map .int)]=.ok (.bl true):=by
 have hd:=wk ns 0 (m:=3) (by decide)
 obtain⟨r,hr⟩:=Int.eq_ofNat_of_zero_le hd.1
 rw[hr] at hd
 have m2:2≤2+r:=by omega
 have m4:2+r≤4:=by omega
 have hmm:(2:Int)+(r:Int)=((2+r:Nat):Int):=by omega
 generalize hm:2+r=m at m2 m4 hmm
 have hd8:=wk ns 1 (m:=5) (by decide)
 obtain⟨t1,h1⟩:=Int.eq_ofNat_of_zero_le hd8.1
 rw[h1] at hd8
 have e1:=zjk ns hn 20 m2 m4 t1 (by omega) (by decide)
 have hk:=Kc.of_gr (n:=5) m2 m4 (zgM ns 20 m2 m4 t1) (by omega)
 generalize bkF ns 20 m t1=B at e1 hk
 have hl:=hk.len (by decide)
 have h:=hk.bb (by decide)
 obtain⟨t,_,eg1,eg2⟩:=hk.bk.grAt
 have h2:2≤B.length:=by omega
 have b5:=jX B.length
 have n0:0<(B.length:Int):=by omega
 have hd2:=wk ns 2 (m:=5) (by decide)
 obtain⟨q,hq⟩:=Int.eq_ofNat_of_zero_le hd2.1
 rw[hq] at hd2
 let num:Nat→Nat:=fun k=>(qI ns (40+(k:Int)) (B.length:Int)).toNat
 have hnum:∀k:Nat,num k<B.length∧qI ns (40+(k:Int)) (B.length:Int)=(num k:Int):=fun k=>by
  have r:=wk ns (40+(k:Int)) n0
  have:((qI ns (40+(k:Int)) (B.length:Int)).toNat:Int)=qI ns (40+(k:Int)) (B.length:Int):=Int.toNat_of_nonneg r.1
  exact⟨by show(qI ns (40+(k:Int)) (B.length:Int)).toNat<B.length;omega,this.symm⟩
 have ewd:∀i,i<B.length→(W B.length).getD i []∈W B.length:=fun i hi=>getD_mem (by rw[jP];exact hi)
 let ws:List (List Nat):=(List.range (1+q)).map fun k=>(W B.length).getD (num k) []
 have hin:∀w∈ws,w∈W B.length:=fun w hw=>by
  obtain⟨k,_,rfl⟩:=List.mem_map.mp hw
  exact ewd _ (hnum k).1
 have hwl:ws.length=1+q:=by show((List.range (1+q)).map _).length=_;rw[List.length_map,List.length_range]
 have fl:=zcU (fun w hw=>zdx (hin w hw))
 have fm:zB B.length*ws.length≤5*5:=Nat.mul_le_mul b5 (by omega)
 refine yq ?_
 refine(zx (ρ':=[.fz (scD ns),.fz (.int m),.no,.no,.no,.no,.no,.no,.no,.no,.no,.no,.no,.no,.no,.no]) (zH ((vp (i:=2) (j:=(r:Int)) rfl ((cA3 rfl rfl rfl (qG ns hn 0 3 (by decide) (by decide) (by decide))).trans (by rw[hr]))).trans (by rw[hmm])))).trans ?_
 refine(zx (ρ':=[.fz (scD ns),.fz (.int m),.fz (.tup (sT B)),.no,.no,.no,.no,.no,.no,.no,.no,.no,.no,.no,.no,.no]) (zH (cA4 (a:=scD ns) (b:=.int 20) (c:=.int m) (d:=.int t1) rfl rfl rfl ((cA3 rfl rfl rfl (qG ns hn 1 5 (by decide) (by decide) (by decide))).trans (by rw[h1])) e1))).trans ?_
 refine(zx (ρ':=[.fz (scD ns),.fz (.int m),.fz (.tup (sT B)),.fz (.lst (sT (W B.length))),.no,.no,.no,.no,.no,.no,.no,.no,.no,.no,.no,.no]) (zH (cA1 (a:=.tup (sT B)) rfl (zj9 (by omega))))).trans ?_
 have e0:∀k:Nat,k<B.length→atI (sT (W B.length)) (k:Int)=some (.str ((W B.length).getD k [])):=fun k hk'=>zff (by rw[jP];exact hk')
 refine(zx (ρ':=[.fz (scD ns),.fz (.int m),.fz (.tup (sT B)),.fz (.lst (sT (W B.length))),.fz (.int ((zB B.length:Nat):Int)),.no,.no,.no,.no,.no,.no,.no,.no,.no,.no,.no]) (zH (zao (ds:=[.str ((W B.length).getD 0 [])]) (zJ (yc (a:=.lst (sT (W B.length))) (b:=.int ((0:Nat):Int)) rfl rfl (e0 0 (by omega))) rfl) (by show some (D.int (((W B.length).getD 0 []).length:Int))=_;rw[zdx (ewd 0 (by omega))])))).trans ?_
 refine(zx (ρ':=[.fz (scD ns),.fz (.int m),.fz (.tup (sT B)),.fz (.lst (sT (W B.length))),.fz (.int ((zB B.length:Nat):Int)),.fz (.lst ((List.range (1+q)).map fun k=>D.int (num k:Int))),.no,.no,.no,.no,.no,.no,.no,.no,.no,.no]) (zcp (d:=(List.range (1+q)).map fun k=>D.int (num k:Int)) (zeU (ds:=(List.range (1+q)).map fun(k:Nat)=>D.int (k:Int)) (jc (ds:=[.int ((1+q:Nat):Int)]) (zJ ((vp (i:=1) (j:=(q:Int)) rfl ((cA3 rfl rfl rfl (qG ns hn 2 5 (by decide) (by decide) (by decide))).trans (by rw[hq]))).trans (by rw[Int.natCast_add];rfl)) rfl) (xU (by omega))) (by rw[List.length_map,List.length_range];omega) (yR (fun k=>D.int (num k:Int)) fun k hk'=>?_)))).trans ?_
 ·have:=List.mem_range.mp hk'
  refine(cA3 (a:=scD ns) (b:=.int (40+(k:Int))) (c:=.int (B.length:Int)) rfl (vp rfl rfl) (zaf rfl) (qG ns hn _ _ (by omega) (by omega) n0)).trans ?_
  rw[(hnum k).2]
 refine(zx (ρ':=zar ns m B ws (.fz (.lst ((List.range (1+q)).map fun k=>D.int (num k:Int)))) .no .no .no .no .no .no .no .no .no) (zH (zls ?_ (by omega)))).trans ?_
 ·have em:sT ws=(List.range (1+q)).map fun k=>D.str ((W B.length).getD (num k) []):=by show List.map D.str ((List.range (1+q)).map _)=_;rw[List.map_map];rfl
  rw[em]
  exact vL (ds:=(List.range (1+q)).map fun k=>D.int (num k:Int)) rfl (by rw[List.length_map,List.length_range];omega) (yR (fun k=>D.str ((W B.length).getD (num k) [])) fun k _=>yc (a:=.lst (sT (W B.length))) (b:=.int (num k:Int)) rfl rfl (e0 _ (hnum k).1))
 generalize Sl.fz (.lst ((List.range (1+q)).map fun k=>D.int (num k:Int)))=s5
 obtain⟨s7,s8,s9,s10,eP⟩:=zdI ns hk hin (by omega) s5
 refine(zx (vX ((xQ (jc (ds:=[.int (ws.flatten.length:Int)]) (zJ (zao (ds:=[.str ws.flatten]) rfl rfl) rfl) (xU (by omega)))).trans eP))).trans ?_
 refine(zx (ρ':=zar ns m B ws s5 s7 s8 s9 s10 (.fz (.lst [])) .no .no .no .no) (zH rfl)).trans ?_
 obtain⟨s7',s8',s12,eR⟩:=zfQ ns hk (ws:=ws) s5 s7 s8 s9 s10
 refine(zx (vX ((xQ (ds:=sT (W B.length)) rfl).trans eR))).trans ?_
 have n17:B.length<17:=by omega
 obtain⟨srt,ris⟩:=zl7 n17
 have eS:fLs (fL zai (zb (fNm 11) zA)) (zar ns m B ws s5 s7' s8' s9 s10 (.fz (.lst ((R B.length).map rwD))) s12 .no .no .no)=.ok (.lst ((R B.length).map rwD)):=by
  refine zc2 ?_
  show lf' (zai [.lst ((R B.length).map rwD)])=_
  rw[zgK srt,zfl srt.1 ris];rfl
 refine(zx (ifF (xH (yc (cA5 (a:=.int 1) (b:=.int m) (c:=.tup (sT B)) (d:=.non) (k:=.non) rfl rfl rfl rfl rfl (zlk (tl (ziv h n17)))) eS (zhE true (zg8 fun d hd=>by obtain⟨x,_,rfl⟩:=List.mem_map.mp hd;rfl) (Nat.le_trans (zkk (n:=1) fun d hd=>by obtain⟨x,_,rfl⟩:=List.mem_map.mp hd;exact Nat.le_refl 1) (by decide))))))).trans ?_
 obtain ⟨ρ',eU,z8,z13,z14,z15,rfl⟩:=xq (i:=13) (g:=zV (yL 14 (fA (ari 3 zP) (zb (fNm 0) (zb (f2 v5 (fC (.int 50)) (f2 zcB (fC (.int 2)) (fNm 13))) (zb (fO vd (zb (fNm 2) zA)) zA)))))
  (zV (yL 8 (fA (ari 3 zP) (zb (fNm 0) (zb (f2 v5 (fC (.int 51)) (f2 zcB (fC (.int 2)) (fNm 13))) (zb (fO vd (zb (fNm 2) zA)) zA)))))
  (zV (yL 15 (fO vd (zb (fLs (zhk (f2 ixD (fNm 3) (fNm 14)) (f2 ixD (fNm 3) (fNm 8)) (bT (f2 (eqD true) (fNm 0) (fNm 1))) (fC (.int 1)) [])) zA)))
  (sIf (bT (f2 (eqD true) (fA (ari 5 zK) (zb (fC (.int 2)) (zb (fNm 1) (zb (fNm 2) (zb (f2 ixD (fNm 2) (fNm 14)) (zb (f2 ixD (fNm 2) (fNm 8)) zA)))))) (fNm 15)))
  (yO (fC (.bl false)))
  sNx)))) (l:=List.range 3) (enc:=fun(k:Nat)=>D.int (k:Int)) (ρ:=zar ns m B ws s5 s7' s8' s9 s10 (.fz (.lst ((R B.length).map rwD))) s12 .no .no .no)
  (fun _ ρ=>∃z8 z13 z14 z15,ρ=zar ns m B ws s5 s7' z8 s9 s10 (.fz (.lst ((R B.length).map rwD))) s12 z13 z14 z15) ⟨s8',.no,.no,.no,rfl⟩ (by
   rintro i k ρ hk' ⟨z8,z13,z14,z15,rfl⟩
   have k3:=List.mem_range.mp (List.mem_of_getElem? hk')
   have ra:=wk ns (50+2*(k:Int)) n0
   have rb:=wk ns (51+2*(k:Int)) n0
   have ea:=qG ns hn (50+2*(k:Int)) (B.length:Int) (by omega) (by omega) n0
   have eb:=qG ns hn (51+2*(k:Int)) (B.length:Int) (by omega) (by omega) n0
   obtain⟨a,ha⟩:=Int.eq_ofNat_of_zero_le ra.1
   obtain⟨b,hb⟩:=Int.eq_ofNat_of_zero_le rb.1
   rw[ha] at ra ea
   rw[hb] at rb eb
   have la:a<B.length:=by omega
   have lb:b<B.length:=by omega
   have wda:wd B (B.getD a [])=(W B.length).getD a []:=by
    unfold wd
    rw[show B.getD a []=B[a] from by rw[List.getD_eq_getElem?_getD,List.getElem?_eq_getElem la];rfl,zeC (My.strict h.bk.srt h.bk.nd) la]
   have wdb:wd B (B.getD b [])=(W B.length).getD b []:=by
    unfold wd
    rw[show B.getD b []=B[b] from by rw[List.getD_eq_getElem?_getD,List.getElem?_eq_getElem lb];rfl,zeC (My.strict h.bk.srt h.bk.nd) lb]
   have eu:=zgC h n17 (p:=B.getD a []) (q:=B.getD b []) (getD_mem la) (getD_mem lb)
   rw[wda,wdb] at eu
   have far:fO vd (zb (fLs (zhk (f2 ixD (fNm 3) (fNm 14)) (f2 ixD (fNm 3) (fNm 8)) (bT (f2 (eqD true) (fNm 0) (fNm 1))) (fC (.int 1)) [])) zA) (zar ns m B ws s5 s7' (.fz (.int (b:Int))) s9 s10 (.fz (.lst ((R B.length).map rwD))) s12 (.fz (.int (k:Int))) (.fz (.int (a:Int))) z15)=.ok (.int (dist ((W B.length).getD a []) ((W B.length).getD b []):Nat)):=by
    have wa:=ewd a la
    have wb:=ewd b lb
    have dg:=zlh B.length (by omega)
    exact zk6 (yc (a:=.lst (sT (W B.length))) (b:=.int (a:Int)) rfl rfl (e0 a la)) (yc (a:=.lst (sT (W B.length))) (b:=.int (b:Int)) rfl rfl (e0 b lb)) ((zdx wa).trans (zdx wb).symm) (by rw[zdx wa];exact b5) (dg _ wa) (dg _ wb)
   exact⟨_,(zx (zH (cA3 (a:=scD ns) (b:=.int (50+2*(k:Int))) (c:=.int (B.length:Int)) rfl (vp rfl (uU (i:=2) (j:=(k:Int)) rfl rfl (vQ (by decide)) (vQ (by omega)))) (zaf rfl) ea))).trans ((zx (zH (cA3 (a:=scD ns) (b:=.int (51+2*(k:Int))) (c:=.int (B.length:Int)) rfl (vp rfl (uU (i:=2) (j:=(k:Int)) rfl rfl (vQ (by decide)) (vQ (by omega)))) (zaf rfl) eb))).trans ((zx (zH far)).trans (ifF (xH (yc (a:=.int (dist ((W B.length).getD a []) ((W B.length).getD b []):Nat)) (b:=.int (dist ((W B.length).getD a []) ((W B.length).getD b []):Nat)) (cA5 (a:=.int 2) (b:=.int m) (c:=.tup (sT B)) (d:=.str (B.getD a [])) (k:=.str (B.getD b [])) rfl rfl rfl (yc (a:=.tup (sT B)) (b:=.int (a:Int)) rfl rfl (zff la)) (yc (a:=.tup (sT B)) (b:=.int (b:Int)) rfl rfl (zff lb)) (zhS (tl eu))) rfl ((zju true _ _).trans (by simp))))))),_,_,_,_,rfl⟩)
 refine(zx (vX ((xQ (jc (ds:=[.int ((3:Nat):Int)]) rfl (xU (by decide)))).trans eU))).trans ?_
 exact xj (cA3 (a:=.int m) (b:=.tup (sT B)) (c:=.str ws.flatten) rfl rfl rfl (zfi hk hin (by omega)))
end
end K42
namespace K42
open PySem L2 PyProof.Rows
open PySem.Challenge
open My
open Pg
def top (i:Nat):Stmt:=PySem.Challenge.pw_piecebooks_k42_spoilt.main.body.getD i (.Pass ⟨0,0,0,0⟩)
abbrev vh:Stmt:=top 44
abbrev wV:Stmt:=top 45
abbrev xX:Stmt:=top 46
abbrev vD:Stmt:=top 47
abbrev wO:Stmt:=top 16
abbrev uf:Stmt:=top 9
abbrev wU:Stmt:=top 10
abbrev zW:Stmt:=top 15
abbrev xZ:Stmt:=top 11
abbrev wB:Stmt:=top 17
abbrev wQ:Stmt:=top 23
abbrev u5:Stmt:=top 20
abbrev vA:Stmt:=top 22
abbrev vG:Stmt:=top 21
abbrev yd:Stmt:=top 24
abbrev wD:Stmt:=top 25
abbrev uZ:Stmt:=top 26
abbrev xK:Stmt:=top 18
abbrev uc:Stmt:=top 28
abbrev yW:Stmt:=top 33
abbrev v9:Stmt:=top 30
abbrev vH:Stmt:=top 31
abbrev yH:Stmt:=top 34
abbrev vz:Stmt:=top 36
abbrev zbL:Stmt:=top 35
abbrev yE:Stmt:=top 12
abbrev wR:Stmt:=top 38
abbrev kW:Stmt:=top 39
abbrev u9:Stmt:=top 40
abbrev zaa:Stmt:=top 41
abbrev yP:Stmt:=top 19
abbrev u6:Stmt:=top 32
abbrev qm:Stmt:=top 42
abbrev xM:Stmt:=top 48
abbrev vI:Stmt:=top 49
abbrev yD:Stmt:=top 50
abbrev zaC:Stmt:=top 51
structure Txt (K:PySem.W.Frag)(mg:Str→Option Value) where
 d__law_cell:Dn K mg "_law_cell" vh ["_law_script", "_law_k"]
 d__law_drawn:Dn K mg "_law_drawn" wV ["_law_script", "_law_k", "_law_many"]
 d__law_book:Dn K mg "_law_book" xX ["_law_script", "_law_at", "_law_many", "_law_turns"]
 d__law_bits:Dn K mg "_law_bits" vD ["_law_book_here"]
 d_is_rising:Dn K mg "is_rising" wO ["texts"]
 d_is_whole:Dn K mg "is_whole" uf ["thing"]
 d_is_between:Dn K mg "is_between" wU ["thing", "least", "most"]
 d_is_number_of_letters:Dn K mg "is_number_of_letters" zW ["thing"]
 d_is_text_of:Dn K mg "is_text_of" xZ ["many", "thing"]
 d_are_pieces:Dn K mg "are_pieces" wB ["many", "thing"]
 d_first_pair:Dn K mg "first_pair" wQ ["pieces"]
 d_gone_on:Dn K mg "gone_on" u5 ["many", "texts"]
 d_is_apart:Dn K mg "is_apart" vA ["pieces", "text"]
 d_is_inner:Dn K mg "is_inner" vG ["pieces", "text"]
 d_first_text_apart:Dn K mg "first_text_apart" yd ["many", "pieces"]
 d_first_paper:Dn K mg "first_paper" wD ["many", "pieces"]
 d_is_book:Dn K mg "is_book" uZ ["many", "thing"]
 d_require_book:Dn K mg "require_book" xK ["many", "thing"]
 d_bits_for:Dn K mg "bits_for" uc ["size"]
 d_whole_words:Dn K mg "whole_words" yW ["book", "signs"]
 d_word_for:Dn K mg "word_for" v9 ["number", "bits"]
 d_words_of:Dn K mg "words_of" vH ["book"]
 d_text_of_words:Dn K mg "text_of_words" yH ["book", "words"]
 d_from_word:Dn K mg "from_word" vz ["many", "book", "signs", "number"]
 d_back:Dn K mg "back" zbL ["many", "book", "signs"]
 d_require_between:Dn K mg "require_between" yE ["thing", "least", "most"]
 d_other_sign:Dn K mg "other_sign" wR ["sign"]
 d_spoilt:Dn K mg "spoilt" kW ["signs", "place"]
 d_flipped:Dn K mg "flipped" u9 ["many", "book", "signs", "place"]
 d_risky:Dn K mg "risky" zaa ["many", "book"]
 d_require_piece:Dn K mg "require_piece" yP ["book", "thing"]
 d_word_of:Dn K mg "word_of" u6 ["many", "book", "piece"]
 d_unlike:Dn K mg "unlike" qm ["many", "book", "one", "other"]
 d__law_refused:Dn K mg "_law_refused" xM ["_law_e"]
 d__law_told:Dn K mg "_law_told" vI ["_law_way", "_law_many", "_law_book_here", "_law_one", "_law_other"]
 d__law_refuses:Dn K mg "_law_refuses" yD ["_law_many", "_law_book_here", "_law_signs"]
 d_law:Dn K mg "law" zaC ["_law_script"]
 v_FEWEST_LETTERS:Value
 c_FEWEST_LETTERS:mg "FEWEST_LETTERS" = some v_FEWEST_LETTERS
 r_FEWEST_LETTERS:RelV (.int (2)) v_FEWEST_LETTERS
 v_LETTERS:Value
 c_LETTERS:mg "LETTERS" = some v_LETTERS
 r_LETTERS:RelV (.str (T [97,98,99,100])) v_LETTERS
 v_MOST_PIECES:Value
 c_MOST_PIECES:mg "MOST_PIECES" = some v_MOST_PIECES
 r_MOST_PIECES:RelV (.int (32)) v_MOST_PIECES
 n_ValueError:mg "ValueError" = none
 n_all:mg "all" = none
 n_any:mg "any" = none
 n_bool:mg "bool" = none
 n_dict:mg "dict" = none
 n_int:mg "int" = none
 n_isinstance:mg "isinstance" = none
 n_len:mg "len" = none
 n_max:mg "max" = none
 n_range:mg "range" = none
 n_sorted:mg "sorted" = none
 n_str:mg "str" = none
 n_tuple:mg "tuple" = none
 n_zip:mg "zip" = none
 x_NoBook:Own K mg "NoBook"
 x_NoPiece:Own K mg "NoPiece"
 x_NoSize:Own K mg "NoSize"
 x_NoWord:Own K mg "NoWord"
 x_PieceError:Own K mg "PieceError"
 e_NoBook:ExcK K x_NoBook.C
 s_NoBook:PySem.W.subIn K (.ref x_NoBook.C) (.ref x_PieceError.C)=some true
 k_NoBook_NoBook:PySem.W.kitOne K (.ref x_NoBook.C) (.ref x_NoBook.C)=some true
 k_NoBook_NoWord:PySem.W.kitOne K (.ref x_NoBook.C) (.ref x_NoWord.C)=some false
 k_NoBook_NoSize:PySem.W.kitOne K (.ref x_NoBook.C) (.ref x_NoSize.C)=some false
 k_NoBook_NoPiece:PySem.W.kitOne K (.ref x_NoBook.C) (.ref x_NoPiece.C)=some false
 v_NoBook:PySem.W.kitOne K (.ref x_NoBook.C) (.type "ValueError")=some true
 e_NoPiece:ExcK K x_NoPiece.C
 s_NoPiece:PySem.W.subIn K (.ref x_NoPiece.C) (.ref x_PieceError.C)=some true
 k_NoPiece_NoBook:PySem.W.kitOne K (.ref x_NoPiece.C) (.ref x_NoBook.C)=some false
 k_NoPiece_NoWord:PySem.W.kitOne K (.ref x_NoPiece.C) (.ref x_NoWord.C)=some false
 k_NoPiece_NoSize:PySem.W.kitOne K (.ref x_NoPiece.C) (.ref x_NoSize.C)=some false
 k_NoPiece_NoPiece:PySem.W.kitOne K (.ref x_NoPiece.C) (.ref x_NoPiece.C)=some true
 v_NoPiece:PySem.W.kitOne K (.ref x_NoPiece.C) (.type "ValueError")=some true
 e_NoWord:ExcK K x_NoWord.C
 s_NoWord:PySem.W.subIn K (.ref x_NoWord.C) (.ref x_PieceError.C)=some true
 k_NoWord_NoBook:PySem.W.kitOne K (.ref x_NoWord.C) (.ref x_NoBook.C)=some false
 k_NoWord_NoWord:PySem.W.kitOne K (.ref x_NoWord.C) (.ref x_NoWord.C)=some true
 k_NoWord_NoSize:PySem.W.kitOne K (.ref x_NoWord.C) (.ref x_NoSize.C)=some false
 k_NoWord_NoPiece:PySem.W.kitOne K (.ref x_NoWord.C) (.ref x_NoPiece.C)=some false
 v_NoWord:PySem.W.kitOne K (.ref x_NoWord.C) (.type "ValueError")=some true
 e_NoSize:ExcK K x_NoSize.C
 s_NoSize:PySem.W.subIn K (.ref x_NoSize.C) (.ref x_PieceError.C)=some true
 k_NoSize_NoBook:PySem.W.kitOne K (.ref x_NoSize.C) (.ref x_NoBook.C)=some false
 k_NoSize_NoWord:PySem.W.kitOne K (.ref x_NoSize.C) (.ref x_NoWord.C)=some false
 k_NoSize_NoSize:PySem.W.kitOne K (.ref x_NoSize.C) (.ref x_NoSize.C)=some true
 k_NoSize_NoPiece:PySem.W.kitOne K (.ref x_NoSize.C) (.ref x_NoPiece.C)=some false
 v_NoSize:PySem.W.kitOne K (.ref x_NoSize.C) (.type "ValueError")=some true
def yo {K:PySem.W.Frag}{mg:Str→Option Value}(t:Txt K mg):Nat→Addr
 | 1=>t.x_NoBook.C
 | 2=>t.x_NoPiece.C
 | 5=>t.x_NoSize.C
 | 4=>t.x_NoWord.C
 | _=>0
section
variable {P:Program}{w:World}{K:PySem.W.Frag}{mg:Str→Option Value}{base:Heap}
theorem zcH:FnScope ["_law_script", "_law_k"] ["_law_script", "_law_k"] (zj vh):=⟨rfl,rfl,rfl,by decide +kernel,rfl,by decide +kernel,by decide +kernel⟩
theorem zdk (t:Txt K mg):FnOk P w K mg base (CX1 P w) 1 t.d__law_cell.f t.d__law_cell.fd ["_law_script", "_law_k"] (spD K (yo t) uL 2) :=
 show FnOk P w K mg base (CX1 P w) 1 t.d__law_cell.f t.d__law_cell.fd ["_law_script", "_law_k"] (spD K (yo t) (yx 2 uq) 2) from
 fnD (N:=["_law_script", "_law_k"]) (ps:=["_law_script", "_law_k"]) (k:=0) (m:=2) (n:=2) (g:=uq) (cl:=yo t) t.d__law_cell.fn zcH rfl rfl fun cdv A outer s H E hr =>
   (zq (ug (xV (zah hr.units) ziP (zf 0 (pv 0)) (zam zu) (xu _))
   (zy (zR (yj uN jh zE (zf 1 (pv 1)))))
   yJ)
   (zy (zR (yj vg vf (qL (zf 0 (pv 0)) (yj jB jQ (zf 1 (pv 1)) (zO zZ n_len rfl t.n_len boot_len (zc (zf 0 (pv 0)) zu za) za)) (fun _ _=>rfl)) (yj uN jh zE (yj kY j6 (zf 1 (pv 1)) (zO zZ n_len rfl t.n_len boot_len (zc (zf 0 (pv 0)) zu za) za)))))))
theorem sc__law_drawn:FnScope ["_law_script", "_law_k", "_law_many", "_law_cell_here"] ["_law_script", "_law_k", "_law_many"] (zj wV):=⟨rfl,rfl,rfl,by decide +kernel,rfl,by decide +kernel,by decide +kernel⟩
theorem yV (t:Txt K mg):FnOk P w K mg base (CX1 P w) 2 t.d__law_drawn.f t.d__law_drawn.fd ["_law_script", "_law_k", "_law_many"] (spD K (yo t) zP 3) :=
 show FnOk P w K mg base (CX1 P w) 2 t.d__law_drawn.f t.d__law_drawn.fd ["_law_script", "_law_k", "_law_many"] (spD K (yo t) (yx 4 vN) 3) from
 fnD (N:=["_law_script", "_law_k", "_law_many", "_law_cell_here"]) (ps:=["_law_script", "_law_k", "_law_many"]) (k:=1) (m:=4) (n:=3) (g:=vN) (cl:=yo t) t.d__law_drawn.fn sc__law_drawn rfl rfl fun cdv A outer s H E hr =>
   (zq (zX (i:=3) sc__law_drawn.nd rfl (Or.inl rfl) (yj jB jQ (yj vg vf (yj uN jh (yj jB jQ (zF (zdk t) (hr.mono (by decide)) rfl t.d__law_cell.mg t.d__law_cell.fn.kp t.d__law_cell.bd xP (zc (zf 0 (pv 0)) (zc (zf 1 (pv 1)) zu za) za) za) zE) zE) (yj uN jh zE (yj vg vf (zf 1 (pv 1)) zE))) zE))
   (zq (zX (i:=3) sc__law_drawn.nd rfl (Or.inl rfl) (yj jB jQ (yj vg vf (yj uN jh (zf 3 (pv 3)) (zf 3 (pv 3))) (yj kY j6 (zf 3 (pv 3)) zE)) zE))
   (zy (zR (yj jB jQ (yj kY j6 (yj jB jQ (yj vg vf (yj uN jh (zf 3 (pv 3)) (zf 3 (pv 3))) (yj kY j6 (zf 3 (pv 3)) zE)) zE) zE) (zf 2 (pv 2)))))))
theorem sc__law_book:FnScope ["_law_script", "_law_at", "_law_many", "_law_turns", "_law_found", "_law_k", "_law_piece"] ["_law_script", "_law_at", "_law_many", "_law_turns"] (zj xX):=⟨rfl,rfl,rfl,by decide +kernel,rfl,by decide +kernel,by decide +kernel⟩
theorem zdo (t:Txt K mg):FnOk P w K mg base (CX1 P w) 3 t.d__law_book.f t.d__law_book.fd ["_law_script", "_law_at", "_law_many", "_law_turns"] (spD K (yo t) qM 4) :=
 show FnOk P w K mg base (CX1 P w) 3 t.d__law_book.f t.d__law_book.fd ["_law_script", "_law_at", "_law_many", "_law_turns"] (spD K (yo t) (yx 7 uo) 4) from
 fnD (N:=["_law_script", "_law_at", "_law_many", "_law_turns", "_law_found", "_law_k", "_law_piece"]) (ps:=["_law_script", "_law_at", "_law_many", "_law_turns"]) (k:=2) (m:=7) (n:=4) (g:=uo) (cl:=yo t) t.d__law_book.fn sc__law_book rfl rfl fun cdv A outer s H E hr =>
   (zq (zhO (j:=4) sc__law_book.nd rfl rfl (x := "_law_k") (caps:=[]) (yQ (fs:=zj xX) (N:=["_law_script", "_law_at", "_law_many", "_law_turns", "_law_found", "_law_k", "_law_piece"]) rfl rfl (by decide +kernel)) rfl (yI rfl t.n_range (zc (zf 2 (pv 2)) zu za) rfl) ⟨fun _ _ _ _ _=>(zQ (i:=0) (u0 (N:=["_law_k"]) rfl (by decide +kernel)) rfl (Or.inl rfl)),fun _ _ _ _ _=>wH,fun _ _ _ _ _=>(qL (yU (l:=[97,98,99,100]) (by decide +kernel) (uV (by decide +kernel) (by decide +kernel))) (zf 0 (pv 0)) (fun _ _=>rfl))⟩ rfl)
   (zq (uY (vZ (i:=5) PassesOwn.never rfl (yI rfl t.n_range (zc (zf 3 (pv 3)) zu za) rfl) (zQ (i:=5) sc__law_book.nd rfl (Or.inl rfl))
   (zq (zla (j:=6) sc__law_book.nd rfl (Or.inr rfl) (pv 4) (zmH (i:=4) (zF (yV t) (hr.mono (by decide)) rfl t.d__law_drawn.mg t.d__law_drawn.fn.kp t.d__law_drawn.bd qT (zc (zf 0 (pv 0)) (zc (yj vg vf (zf 1 (pv 1)) (zf 5 (pv 5))) (zc (zO zZ n_len rfl t.n_len boot_len (zc (zf 4 (pv 4)) zu za) za) zu zN) wL) za) za)) ⟨zN,rfl,rfl,rfl,rfl⟩)
   (zy (zc4 (i:=4) (zcc (i:=4) sc__law_book.nd rfl (Or.inl rfl) (zf9 rfl t.n_sorted boot_sorted (XL.xe (zgN (zf 4 (pv 4)) (wZ (x := "_law_j") (caps:=[6]) (yQ (fs:=zj xX) (N:=["_law_script", "_law_at", "_law_many", "_law_turns", "_law_found", "_law_k", "_law_piece"]) rfl rfl (by decide +kernel)) rfl (yI rfl t.n_range (zc (zf 2 (pv 2)) zu za) rfl) ⟨fun _ _ _ _ _=>(zQ (i:=0) (u0 (N:=["_law_j", "_law_piece"]) rfl (by decide +kernel)) rfl (Or.inl rfl)),fun _ _ _ _ _=>wH,fun _ _ _ _ _=>(yj vV qH (zf 1 (pv 1)) (qL (yU (l:=[97,98,99,100]) (by decide +kernel) (uV (by decide +kernel) (by decide +kernel))) (zf 0 (pv 0)) (fun _ _=>rfl)))⟩))) wL)))))))
   (zy (zc4 (i:=4) (zR (zaQ zb5 zms rfl t.n_tuple boot_tuple (zc (zf 4 (pv 4)) zu za) za))))))
theorem sc__law_bits:FnScope ["_law_book_here", "_law_long", "_law_size", "_law_turn", "_law_found", "_law_number", "_law_word"] ["_law_book_here"] (zj vD):=⟨rfl,rfl,rfl,by decide +kernel,rfl,by decide +kernel,by decide +kernel⟩
theorem zda (t:Txt K mg):FnOk P w K mg base (CX1 P w) 1 t.d__law_bits.f t.d__law_bits.fd ["_law_book_here"] (spD K (yo t) qW 1) :=
 show FnOk P w K mg base (CX1 P w) 1 t.d__law_bits.f t.d__law_bits.fd ["_law_book_here"] (spD K (yo t) (yx 7 jl) 1) from
 fnD (N:=["_law_book_here", "_law_long", "_law_size", "_law_turn", "_law_found", "_law_number", "_law_word"]) (ps:=["_law_book_here"]) (k:=0) (m:=7) (n:=1) (g:=jl) (cl:=yo t) t.d__law_bits.fn sc__law_bits rfl rfl fun cdv A outer s H E hr =>
   (zq (zX (i:=1) sc__law_bits.nd rfl (Or.inl rfl) zE)
   (zq (zX (i:=2) sc__law_bits.nd rfl (Or.inl rfl) zE)
   (zq (uY (vZ (i:=3) PassesOwn.never rfl (yI rfl t.n_range (zc zE zu zm) rfl) (zQ (i:=3) sc__law_bits.nd rfl (Or.inl rfl))
   (zy (ug (xV zlr zkN (zf 2 (pv 2)) (zO zZ n_len rfl t.n_len boot_len (zc (zf 0 (pv 0)) zu za) za) (xu _))
   (zq (zX (i:=2) sc__law_bits.nd rfl (Or.inl rfl) (yj uN jh zE (zf 2 (pv 2))))
   (zy (zX (i:=1) sc__law_bits.nd rfl (Or.inl rfl) (yj vg vf (zf 1 (pv 1)) zE))))
   yJ))))
   (zq (zcc (i:=4) sc__law_bits.nd rfl (Or.inl rfl) (zgI zu))
   (zq (uY (vZ (i:=5) PassesOwn.never rfl (yI rfl t.n_range (zc (zO zZ n_len rfl t.n_len boot_len (zc (zf 0 (pv 0)) zu za) za) zu zN) rfl) (zQ (i:=5) sc__law_bits.nd rfl (Or.inl rfl))
   (zq (zX (i:=6) sc__law_bits.nd rfl (Or.inl rfl) (yU (l:=[]) (by decide +kernel) (uV (by decide +kernel) (by decide +kernel))))
   (zq (vZ (i:=3) PassesOwn.never rfl (yI rfl t.n_range (zc (zf 1 (pv 1)) zu za) rfl) (zQ (i:=3) sc__law_bits.nd rfl (Or.inl rfl))
   (zq (zX (i:=6) sc__law_bits.nd rfl (Or.inl rfl) (yj vV qH (qL (yU (l:=[48,49]) (by decide +kernel) (uV (by decide +kernel) (by decide +kernel))) (yj jB jQ (zf 5 (pv 5)) zE) (fun _ _=>rfl)) (zf 6 (pv 6))))
   (zy (zX (i:=5) sc__law_bits.nd rfl (Or.inl rfl) (yj kY j6 (zf 5 (pv 5)) zE)))))
   (zy (zbm (pv 4) (zf 6 (pv 6)) ⟨za,rfl,rfl,rfl,rfl⟩))))))
   (zy (zc4 (i:=4) (zR (zf 4 (pv 4))))))))))
theorem zdB:FnScope ["texts"] ["texts"] (zj wO):=⟨rfl,rfl,rfl,by decide +kernel,rfl,by decide +kernel,by decide +kernel⟩
theorem zdn (t:Txt K mg):FnOk P w K mg base (CX1 P w) 1 t.d_is_rising.f t.d_is_rising.fd ["texts"] (spD K (yo t) uE 1) :=
 show FnOk P w K mg base (CX1 P w) 1 t.d_is_rising.f t.d_is_rising.fd ["texts"] (spD K (yo t) (yx 1 qz) 1) from
 fnD (N:=["texts"]) (ps:=["texts"]) (k:=0) (m:=1) (n:=1) (g:=qz) (cl:=yo t) t.d_is_rising.fn zdB rfl rfl fun cdv A outer s H E hr =>
   (zy (zR (zO (zcx rfl) n_all rfl t.n_all boot_all (zc (XL.xe (ziq (x := "one") (y := "other") (caps:=[]) (yQ (fs:=zj wO) (N:=["texts"]) rfl rfl (by decide +kernel)) rfl rfl t.n_zip (zf 0 (pv 0)) (xT (zf 0 (pv 0)) (wI zE) vW) ⟨fun _ _ _ _ _=>(zgn (K:=K) (i:=0) (j:=1) rfl rfl (u0 (N:=["one", "other"]) rfl (by decide +kernel)) rfl rfl (Or.inl rfl) (Or.inl rfl)),fun _ _ _ _ _=>wH,fun _ _ _ _ _=>(zbA zhe zmw (zf 0 (pv 0)) (zf 1 (pv 1)) (xu _))⟩ rfl rfl)) zu rfl) rfl)))
theorem zec:FnScope ["thing"] ["thing"] (zj uf):=⟨rfl,rfl,rfl,by decide +kernel,rfl,by decide +kernel,by decide +kernel⟩
theorem zea (t:Txt K mg):FnOk P w K mg base (CX1 P w) 1 t.d_is_whole.f t.d_is_whole.fd ["thing"] (spD K (yo t) jt 1) :=
 show FnOk P w K mg base (CX1 P w) 1 t.d_is_whole.f t.d_is_whole.fd ["thing"] (spD K (yo t) (yx 1 jT) 1) from
 fnD (N:=["thing"]) (ps:=["thing"]) (k:=0) (m:=1) (n:=1) (g:=jT) (cl:=yo t) t.d_is_whole.fn zec rfl rfl fun cdv A outer s H E hr =>
   (zy (zR (zbF (zdc zjF rfl t.n_isinstance (zf 0 (pv 0)) (jZ (v:=.ty "int") rfl t.n_int boot_int rfl) za) (za8 (ziN (zdc zh1 rfl t.n_isinstance (zf 0 (pv 0)) (jZ (v:=.ty "bool") rfl t.n_bool boot_bool rfl) za))))))
theorem zb3:FnScope ["thing", "least", "most"] ["thing", "least", "most"] (zj wU):=⟨rfl,rfl,rfl,by decide +kernel,rfl,by decide +kernel,by decide +kernel⟩
theorem jE (t:Txt K mg):FnOk P w K mg base (CX1 P w) 2 t.d_is_between.f t.d_is_between.fd ["thing", "least", "most"] (spD K (yo t) xr 3) :=
 show FnOk P w K mg base (CX1 P w) 2 t.d_is_between.f t.d_is_between.fd ["thing", "least", "most"] (spD K (yo t) (yx 3 uK) 3) from
 fnD (N:=["thing", "least", "most"]) (ps:=["thing", "least", "most"]) (k:=1) (m:=3) (n:=3) (g:=uK) (cl:=yo t) t.d_is_between.fn zb3 rfl rfl fun cdv A outer s H E hr =>
   (zy (zR (zbF (zF (zea t) (hr.mono (by decide)) rfl t.d_is_whole.mg t.d_is_whole.fn.kp t.d_is_whole.bd xP (zc (zf 0 (pv 0)) zu za) za) (za8 (zhn zhu zhu zhF zhF (zf 1 (pv 1)) (zf 0 (pv 0)) (zf 2 (pv 2)))))))
theorem qu:FnScope ["thing"] ["thing"] (zj zW):=⟨rfl,rfl,rfl,by decide +kernel,rfl,by decide +kernel,by decide +kernel⟩
theorem qi (t:Txt K mg):FnOk P w K mg base (CX1 P w) 3 t.d_is_number_of_letters.f t.d_is_number_of_letters.fd ["thing"] (spD K (yo t) yC 1) :=
 show FnOk P w K mg base (CX1 P w) 3 t.d_is_number_of_letters.f t.d_is_number_of_letters.fd ["thing"] (spD K (yo t) (yx 1 yK) 1) from
 fnD (N:=["thing"]) (ps:=["thing"]) (k:=2) (m:=1) (n:=1) (g:=yK) (cl:=yo t) t.d_is_number_of_letters.fn qu rfl rfl fun cdv A outer s H E hr =>
   (zy (zR (zF (jE t) (hr.mono (by decide)) rfl t.d_is_between.mg t.d_is_between.fn.kp t.d_is_between.bd xP (zc (zf 0 (pv 0)) (zc (zhK (qj (v:=.int (2)) rfl t.c_FEWEST_LETTERS t.r_FEWEST_LETTERS) fun _=>.int _) (zc (zO zZ n_len rfl t.n_len boot_len (zc (zhK (qj (v:=.str (T [97,98,99,100])) rfl t.c_LETTERS t.r_LETTERS) fun _=>.str [97,98,99,100] (uV (by decide +kernel) (by decide +kernel))) zu za) za) zu zN) za) za) za)))
theorem sc_is_text_of:FnScope ["many", "thing", "letters"] ["many", "thing"] (zj xZ):=⟨rfl,rfl,rfl,by decide +kernel,rfl,by decide +kernel,by decide +kernel⟩
theorem zbV (t:Txt K mg):FnOk P w K mg base (CX1 P w) 1 t.d_is_text_of.f t.d_is_text_of.fd ["many", "thing"] (spD K (yo t) w5 2) :=
 show FnOk P w K mg base (CX1 P w) 1 t.d_is_text_of.f t.d_is_text_of.fd ["many", "thing"] (spD K (yo t) (yx 3 uF) 2) from
 fnD (N:=["many", "thing", "letters"]) (ps:=["many", "thing"]) (k:=0) (m:=3) (n:=2) (g:=uF) (cl:=yo t) t.d_is_text_of.fn sc_is_text_of rfl rfl fun cdv A outer s H E hr =>
   (zq (zX (i:=2) sc_is_text_of.nd rfl (Or.inr rfl) (xT (zhK (qj (v:=.str (T [97,98,99,100])) rfl t.c_LETTERS t.r_LETTERS) fun _=>.str [97,98,99,100] (uV (by decide +kernel) (by decide +kernel))) vW (wI (zf 0 (pv 0)))))
   (zy (zR (zbF (zdc zfR rfl t.n_isinstance (zf 1 (pv 1)) (jZ (v:=.ty "str") rfl t.n_str boot_str rfl) za) (za8 (zO (zcx rfl) n_all rfl t.n_all boot_all (zc (wZ (x := "sign") (caps:=[2]) (yQ (fs:=zj xZ) (N:=["many", "thing", "letters"]) rfl rfl (by decide +kernel)) rfl (ziF (zf 1 (pv 1))) ⟨fun _ _ _ _ _=>(zQ (i:=0) (u0 (N:=["sign", "letters"]) rfl (by decide +kernel)) rfl (Or.inl rfl)),fun _ _ _ _ _=>wH,fun _ _ _ _ _=>(zbA zkF zmM (zf 0 (pv 0)) (zf 1 (pv 1)) (by with_unfolding_all rfl))⟩) zu rfl) rfl))))))
theorem zb4:FnScope ["many", "thing"] ["many", "thing"] (zj wB):=⟨rfl,rfl,rfl,by decide +kernel,rfl,by decide +kernel,by decide +kernel⟩
theorem zce (t:Txt K mg):FnOk P w K mg base (CX1 P w) 4 t.d_are_pieces.f t.d_are_pieces.fd ["many", "thing"] (spD K (yo t) w6 2) :=
 show FnOk P w K mg base (CX1 P w) 4 t.d_are_pieces.f t.d_are_pieces.fd ["many", "thing"] (spD K (yo t) (yx 2 uG) 2) from
 fnD (N:=["many", "thing"]) (ps:=["many", "thing"]) (k:=3) (m:=2) (n:=2) (g:=uG) (cl:=yo t) t.d_are_pieces.fn zb4 rfl rfl fun cdv A outer s H E hr =>
   (zq (ug (XW.xt (zjE (zal (jf (zF (qi t) (hr.mono (by decide)) rfl t.d_is_number_of_letters.mg t.d_is_number_of_letters.fn.kp t.d_is_number_of_letters.bd xP (zc (zf 0 (pv 0)) zu za) za))) (zgg (zal (jf (zdc kit_tuple rfl t.n_isinstance (zf 1 (pv 1)) (jZ (v:=.ty "tuple") rfl t.n_tuple boot_tuple rfl) za))))))
   (zy (zR zad))
   yJ)
   (zq (ug (zal (zhV zhu zhu zhF zhF zE (zO zZ n_len rfl t.n_len boot_len (zc (zf 1 (pv 1)) zu za) za) (zhK (qj (v:=.int (32)) rfl t.c_MOST_PIECES t.r_MOST_PIECES) fun _=>.int _)))
   (zy (zR zad))
   yJ)
   (zq (ug (zal (jf (zO (zcx rfl) n_all rfl t.n_all boot_all (zc (wZ (x := "part") (caps:=[0]) (yQ (fs:=zj wB) (N:=["many", "thing"]) rfl rfl (by decide +kernel)) rfl (zcR (zf 1 (pv 1))) ⟨fun _ _ _ _ _=>(zQ (i:=0) (u0 (N:=["part", "many"]) rfl (by decide +kernel)) rfl (Or.inl rfl)),fun _ _ _ _ _=>wH,fun _ _ _ _ _=>(zbF (zF (zbV t) (hr.mono (by decide)) rfl t.d_is_text_of.mg t.d_is_text_of.fn.kp t.d_is_text_of.bd qT (zc (zf 1 (pv 1)) (zc (zf 0 (pv 0)) zu za) za) za) (za8 (zbA (uM hr.units) zel (zf 0 (pv 0)) (yU (l:=[]) (by decide +kernel) (uV (by decide +kernel) (by decide +kernel))) (xu _))))⟩) zu rfl) rfl)))
   (zy (zR zad))
   yJ)
   (zy (zR (zF (zdn t) (hr.mono (by decide)) rfl t.d_is_rising.mg t.d_is_rising.fn.kp t.d_is_rising.bd xP (zc (zf 1 (pv 1)) zu za) za))))))
theorem sc_first_pair:FnScope ["pieces", "one", "other"] ["pieces"] (zj wQ):=⟨rfl,rfl,rfl,by decide +kernel,rfl,by decide +kernel,by decide +kernel⟩
theorem zct (t:Txt K mg):FnOk P w K mg base (CX1 P w) 1 t.d_first_pair.f t.d_first_pair.fd ["pieces"] (spD K (yo t) xg 1) :=
 show FnOk P w K mg base (CX1 P w) 1 t.d_first_pair.f t.d_first_pair.fd ["pieces"] (spD K (yo t) (yx 3 wu) 1) from
 fnD (N:=["pieces", "one", "other"]) (ps:=["pieces"]) (k:=0) (m:=3) (n:=1) (g:=wu) (cl:=yo t) t.d_first_pair.fn sc_first_pair rfl rfl fun cdv A outer s H E hr =>
   (zq (uY (zi0 (i:=1) (j:=2) PassesOwn.never rfl rfl t.n_zip (zf 0 (pv 0)) (xT (zf 0 (pv 0)) (wI zE) vW) (zgn (K:=K) (i:=1) (j:=2) rfl rfl sc_first_pair.nd rfl rfl (Or.inl rfl) (Or.inl rfl))
   (zy (ug (jf (jM (zf 2 (pv 2)) (zf 1 (pv 1)) ⟨za,rfl,rfl,rfl,rfl⟩))
   (zy (zR (zeE (zc (zf 1 (pv 1)) (zc (zf 2 (pv 2)) zu za) za))))
   yJ)) rfl rfl))
   (zy (zR jG)))
theorem sc_gone_on:FnScope ["many", "texts", "longer", "text", "letter"] ["many", "texts"] (zj u5):=⟨rfl,rfl,rfl,by decide +kernel,rfl,by decide +kernel,by decide +kernel⟩
theorem ze5 (t:Txt K mg):FnOk P w K mg base (CX1 P w) 1 t.d_gone_on.f t.d_gone_on.fd ["many", "texts"] (spD K (yo t) xJ 2) :=
 show FnOk P w K mg base (CX1 P w) 1 t.d_gone_on.f t.d_gone_on.fd ["many", "texts"] (spD K (yo t) (yx 5 qY) 2) from
 fnD (N:=["many", "texts", "longer", "text", "letter"]) (ps:=["many", "texts"]) (k:=0) (m:=5) (n:=2) (g:=qY) (cl:=yo t) t.d_gone_on.fn sc_gone_on rfl rfl fun cdv A outer s H E hr =>
   (zq (zcc (i:=2) sc_gone_on.nd rfl (Or.inl rfl) (zgI zu))
   (zq (uY (vZ (i:=3) PassesOwn.never rfl (uT (zf 1 (pv 1))) (zQ (i:=3) sc_gone_on.nd rfl (Or.inl rfl))
   (zy (vZ (i:=4) PassesOwn.never rfl (ziF (xT (zhK (qj (v:=.str (T [97,98,99,100])) rfl t.c_LETTERS t.r_LETTERS) fun _=>.str [97,98,99,100] (uV (by decide +kernel) (by decide +kernel))) vW (wI (zf 0 (pv 0))))) (zQ (i:=4) sc_gone_on.nd rfl (Or.inl rfl))
   (zy (zbm (pv 2) (yj vV qH (zf 3 (pv 3)) (zf 4 (pv 4))) ⟨wL,rfl,rfl,rfl,rfl⟩))))))
   (zy (zc4 (i:=2) (zR (zf 2 (pv 2)))))))
theorem zee:FnScope ["pieces", "text"] ["pieces", "text"] (zj vA):=⟨rfl,rfl,rfl,by decide +kernel,rfl,by decide +kernel,by decide +kernel⟩
theorem zdK (t:Txt K mg):FnOk P w K mg base (CX1 P w) 1 t.d_is_apart.f t.d_is_apart.fd ["pieces", "text"] (spD K (yo t) yp 2) :=
 show FnOk P w K mg base (CX1 P w) 1 t.d_is_apart.f t.d_is_apart.fd ["pieces", "text"] (spD K (yo t) (yx 2 kE) 2) from
 fnD (N:=["pieces", "text"]) (ps:=["pieces", "text"]) (k:=0) (m:=2) (n:=2) (g:=kE) (cl:=yo t) t.d_is_apart.fn zee rfl rfl fun cdv A outer s H E hr =>
   (zy (zR (ziN (zO (zeD rfl) n_any rfl t.n_any boot_any (zc (wZ (x := "piece") (caps:=[1]) (yQ (fs:=zj vA) (N:=["pieces", "text"]) rfl rfl (by decide +kernel)) rfl (zcR (zf 0 (pv 0))) ⟨fun _ _ _ _ _=>(zQ (i:=0) (u0 (N:=["piece", "text"]) rfl (by decide +kernel)) rfl (Or.inl rfl)),fun _ _ _ _ _=>wH,fun _ _ _ _ _=>(zma (jM (zf 0 (pv 0)) (zf 1 (pv 1)) ⟨za,rfl,rfl,rfl,rfl⟩) (za8 (jM (zf 1 (pv 1)) (zf 0 (pv 0)) ⟨za,rfl,rfl,rfl,rfl⟩)))⟩) zu rfl) rfl))))
theorem zdX:FnScope ["pieces", "text"] ["pieces", "text"] (zj vG):=⟨rfl,rfl,rfl,by decide +kernel,rfl,by decide +kernel,by decide +kernel⟩
theorem zd6 (t:Txt K mg):FnOk P w K mg base (CX1 P w) 1 t.d_is_inner.f t.d_is_inner.fd ["pieces", "text"] (spD K (yo t) yr 2) :=
 show FnOk P w K mg base (CX1 P w) 1 t.d_is_inner.f t.d_is_inner.fd ["pieces", "text"] (spD K (yo t) (yx 2 kO) 2) from
 fnD (N:=["pieces", "text"]) (ps:=["pieces", "text"]) (k:=0) (m:=2) (n:=2) (g:=kO) (cl:=yo t) t.d_is_inner.fn zdX rfl rfl fun cdv A outer s H E hr =>
   (zy (zR (zO (zeD rfl) n_any rfl t.n_any boot_any (zc (wZ (x := "piece") (caps:=[1]) (yQ (fs:=zj vG) (N:=["pieces", "text"]) rfl rfl (by decide +kernel)) rfl (zcR (zf 0 (pv 0))) ⟨fun _ _ _ _ _=>(zQ (i:=0) (u0 (N:=["piece", "text"]) rfl (by decide +kernel)) rfl (Or.inl rfl)),fun _ _ _ _ _=>wH,fun _ _ _ _ _=>(zbF (jM (zf 0 (pv 0)) (zf 1 (pv 1)) ⟨za,rfl,rfl,rfl,rfl⟩) (za8 (zbA (uM hr.units) zel (zf 0 (pv 0)) (zf 1 (pv 1)) (xu _))))⟩) zu rfl) rfl)))
theorem sc_first_text_apart:FnScope ["many", "pieces", "inner", "longer", "text"] ["many", "pieces"] (zj yd):=⟨rfl,rfl,rfl,by decide +kernel,rfl,by decide +kernel,by decide +kernel⟩
theorem ji (t:Txt K mg):FnOk P w K mg base (CX1 P w) 2 t.d_first_text_apart.f t.d_first_text_apart.fd ["many", "pieces"] (spD K (yo t) yX 2) :=
 show FnOk P w K mg base (CX1 P w) 2 t.d_first_text_apart.f t.d_first_text_apart.fd ["many", "pieces"] (spD K (yo t) (yx 5 wW) 2) from
 fnD (N:=["many", "pieces", "inner", "longer", "text"]) (ps:=["many", "pieces"]) (k:=1) (m:=5) (n:=2) (g:=wW) (cl:=yo t) t.d_first_text_apart.fn sc_first_text_apart rfl rfl fun cdv A outer s H E hr =>
   (zq (zX (i:=2) sc_first_text_apart.nd rfl (Or.inl rfl) (XEw.out (zfX (ye (je (l:=[]) (by decide +kernel) (uV (by decide +kernel) (by decide +kernel))) uW zm))))
   (zq (uY (zez 2000 PassesOwn.never (xV (uM hr.units) zel (zf 2 (pv 2)) (zam zu) (xu _))
   (zq (zX (i:=3) sc_first_text_apart.nd rfl (Or.inl rfl) (zF (ze5 t) (hr.mono (by decide)) rfl t.d_gone_on.mg t.d_gone_on.fn.kp t.d_gone_on.bd qT (zc (zf 0 (pv 0)) (zc (zf 2 (pv 2)) zu za) za) za))
   (zq (vZ (i:=4) PassesOwn.never rfl (uT (zf 3 (pv 3))) (zQ (i:=4) sc_first_text_apart.nd rfl (Or.inl rfl))
   (zy (ug (jf (zF (zdK t) (hr.mono (by decide)) rfl t.d_is_apart.mg t.d_is_apart.fn.kp t.d_is_apart.bd qT (zc (zf 1 (pv 1)) (zc (zf 4 (pv 4)) zu za) za) za))
   (zy (zR (zf 4 (pv 4))))
   yJ)))
   (zy (zdL (j:=2) sc_first_text_apart.nd rfl rfl (x := "text") (caps:=[1]) (yQ (fs:=zj yd) (N:=["many", "pieces", "inner", "longer", "text"]) rfl rfl (by decide +kernel)) rfl (uT (zf 3 (pv 3))) ⟨fun _ _ _ _ _=>(zQ (i:=0) (u0 (N:=["text", "pieces"]) rfl (by decide +kernel)) rfl (Or.inl rfl)),fun _ _ _ _ _=>(zcn (jf (zF (zd6 t) (hr.mono (by decide)) rfl t.d_is_inner.mg t.d_is_inner.fn.kp t.d_is_inner.bd qT (zc (zf 1 (pv 1)) (zc (zf 0 (pv 0)) zu za) za) za))),fun _ _ _ _ _=>(zf 0 (pv 0))⟩ rfl))))))
   (zy (zR jG))))
theorem sc_first_paper:FnScope ["many", "pieces", "pair"] ["many", "pieces"] (zj wD):=⟨rfl,rfl,rfl,by decide +kernel,rfl,by decide +kernel,by decide +kernel⟩
theorem zbv (t:Txt K mg):FnOk P w K mg base (CX1 P w) 3 t.d_first_paper.f t.d_first_paper.fd ["many", "pieces"] (spD K (yo t) vK 2) :=
 show FnOk P w K mg base (CX1 P w) 3 t.d_first_paper.f t.d_first_paper.fd ["many", "pieces"] (spD K (yo t) (yx 3 wX) 2) from
 fnD (N:=["many", "pieces", "pair"]) (ps:=["many", "pieces"]) (k:=2) (m:=3) (n:=2) (g:=wX) (cl:=yo t) t.d_first_paper.fn sc_first_paper rfl rfl fun cdv A outer s H E hr =>
   (zq (zX (i:=2) sc_first_paper.nd rfl (Or.inl rfl) (zF (zct t) (hr.mono (by decide)) rfl t.d_first_pair.mg t.d_first_pair.fn.kp t.d_first_pair.bd xP (zc (zf 1 (pv 1)) zu za) za))
   (zq (ug (zjP (zf 2 (pv 2)))
   (zy (zR (zf 2 (pv 2))))
   yJ)
   (zy (zR (zF (ji t) (hr.mono (by decide)) rfl t.d_first_text_apart.mg t.d_first_text_apart.fn.kp t.d_first_text_apart.bd xP (zc (zf 0 (pv 0)) (zc (zf 1 (pv 1)) zu za) za) za)))))
theorem zfh:FnScope ["many", "thing"] ["many", "thing"] (zj uZ):=⟨rfl,rfl,rfl,by decide +kernel,rfl,by decide +kernel,by decide +kernel⟩
theorem ze9 (t:Txt K mg):FnOk P w K mg base (CX1 P w) 5 t.d_is_book.f t.d_is_book.fd ["many", "thing"] (spD K (yo t) wG 2) :=
 show FnOk P w K mg base (CX1 P w) 5 t.d_is_book.f t.d_is_book.fd ["many", "thing"] (spD K (yo t) (yx 2 za4) 2) from
 fnD (N:=["many", "thing"]) (ps:=["many", "thing"]) (k:=4) (m:=2) (n:=2) (g:=za4) (cl:=yo t) t.d_is_book.fn zfh rfl rfl fun cdv A outer s H E hr =>
   (zy (zR (zbF (zF (zce t) (hr.mono (by decide)) rfl t.d_are_pieces.mg t.d_are_pieces.fn.kp t.d_are_pieces.bd xP (zc (zf 0 (pv 0)) (zc (zf 1 (pv 1)) zu za) za) za) (za8 (zkB (zF (zbv t) (hr.mono (by decide)) rfl t.d_first_paper.mg t.d_first_paper.fn.kp t.d_first_paper.bd xP (zc (zf 0 (pv 0)) (zc (zf 1 (pv 1)) zu za) za) za))))))
theorem zaW:FnScope ["many", "thing"] ["many", "thing"] (zj xK):=⟨rfl,rfl,rfl,by decide +kernel,rfl,by decide +kernel,by decide +kernel⟩
theorem uh (t:Txt K mg):FnOk P w K mg base (CX1 P w) 6 t.d_require_book.f t.d_require_book.fd ["many", "thing"] (spD K (yo t) yG 2) :=
 show FnOk P w K mg base (CX1 P w) 6 t.d_require_book.f t.d_require_book.fd ["many", "thing"] (spD K (yo t) (yx 2 uO) 2) from
 fnD (N:=["many", "thing"]) (ps:=["many", "thing"]) (k:=5) (m:=2) (n:=2) (g:=uO) (cl:=yo t) t.d_require_book.fn zaW rfl rfl fun cdv A outer s H E hr =>
   (zy (ug (zal (jf (zF (ze9 t) (hr.mono (by decide)) rfl t.d_is_book.mg t.d_is_book.fn.kp t.d_is_book.bd xP (zc (zf 0 (pv 0)) (zc (zf 1 (pv 1)) zu za) za) za)))
   (zy (jD t.x_NoBook rfl rfl (zc (yU (l:=[116,104,105,115,32,105,115,32,110,111,32,98,111,111,107,32,111,102,32,115,111,32,109,97,110,121,32,108,101,116,116,101,114,115]) (by decide +kernel) (uV (by decide +kernel) (by decide +kernel))) zu zm) zm))
   yJ))
theorem sc_bits_for:FnScope ["size", "bits", "room"] ["size"] (zj uc):=⟨rfl,rfl,rfl,by decide +kernel,rfl,by decide +kernel,by decide +kernel⟩
theorem za0 (t:Txt K mg):FnOk P w K mg base (CX1 P w) 1 t.d_bits_for.f t.d_bits_for.fd ["size"] (spD K (yo t) ql 1) :=
 show FnOk P w K mg base (CX1 P w) 1 t.d_bits_for.f t.d_bits_for.fd ["size"] (spD K (yo t) (yx 3 zag) 1) from
 fnD (N:=["size", "bits", "room"]) (ps:=["size"]) (k:=0) (m:=3) (n:=1) (g:=zag) (cl:=yo t) t.d_bits_for.fn sc_bits_for rfl rfl fun cdv A outer s H E hr =>
   (zq (zX (i:=1) sc_bits_for.nd rfl (Or.inl rfl) zE)
   (zq (zX (i:=2) sc_bits_for.nd rfl (Or.inl rfl) zE)
   (zq (uY (zez 64 PassesOwn.never (xV zlr zkN (zf 2 (pv 2)) (zf 0 (pv 0)) (xu _))
   (zq (zX (i:=1) sc_bits_for.nd rfl (Or.inl rfl) (yj vg vf (zf 1 (pv 1)) zE))
   (zy (zX (i:=2) sc_bits_for.nd rfl (Or.inl rfl) (yj uN jh (zf 2 (pv 2)) zE))))))
   (zy (zR (zf 1 (pv 1)))))))
theorem sc_whole_words:FnScope ["book", "signs", "bits"] ["book", "signs"] (zj yW):=⟨rfl,rfl,rfl,by decide +kernel,rfl,by decide +kernel,by decide +kernel⟩
theorem zbs (t:Txt K mg):FnOk P w K mg base (CX1 P w) 2 t.d_whole_words.f t.d_whole_words.fd ["book", "signs"] (spD K (yo t) wK 2) :=
 show FnOk P w K mg base (CX1 P w) 2 t.d_whole_words.f t.d_whole_words.fd ["book", "signs"] (spD K (yo t) (yx 3 qg) 2) from
 fnD (N:=["book", "signs", "bits"]) (ps:=["book", "signs"]) (k:=1) (m:=3) (n:=2) (g:=qg) (cl:=yo t) t.d_whole_words.fn sc_whole_words rfl rfl fun cdv A outer s H E hr =>
   (zq (zX (i:=2) sc_whole_words.nd rfl (Or.inr rfl) (zF (za0 t) (hr.mono (by decide)) rfl t.d_bits_for.mg t.d_bits_for.fn.kp t.d_bits_for.bd xP (zc (zO zZ n_len rfl t.n_len boot_len (zc (zf 0 (pv 0)) zu za) za) zu zN) zN))
   (zq (ug (XW.xt (zjE (zal (jf (zdc zfR rfl t.n_isinstance (zf 1 (pv 1)) (jZ (v:=.ty "str") rfl t.n_str boot_str rfl) za))) (zgg (xV (uM hr.units) zel (yj jB jQ (zO zZ n_len rfl t.n_len boot_len (zc (zf 1 (pv 1)) zu za) za) (zf 2 (pv 2))) zE (xu _)))))
   (zy (jD t.x_NoWord rfl rfl (zc (yU (l:=[116,104,101,115,101,32,97,114,101,32,110,111,32,119,104,111,108,101,32,119,111,114,100,115]) (by decide +kernel) (uV (by decide +kernel) (by decide +kernel))) zu zm) zm))
   yJ)
   (zy (zR (wZ (x := "start") (caps:=[1,2]) (yQ (fs:=zj yW) (N:=["book", "signs", "bits"]) rfl rfl (by decide +kernel)) rfl (zde rfl t.n_range (zc zE (zc (zO zZ n_len rfl t.n_len boot_len (zc (zf 1 (pv 1)) zu za) za) (zc (zf 2 (pv 2)) zu za) zN) zm) rfl rfl) ⟨fun _ _ _ _ _=>(zQ (i:=0) (u0 (N:=["start", "signs", "bits"]) rfl (by decide +kernel)) rfl (Or.inl rfl)),fun _ _ _ _ _=>wH,fun _ _ _ _ _=>(xT (zf 1 (pv 1)) (wI (zf 0 (pv 0))) (wI (yj vg vf (zf 0 (pv 0)) (zf 2 (pv 2)))))⟩)))))
theorem sc_word_for:FnScope ["number", "bits", "word", "place"] ["number", "bits"] (zj v9):=⟨rfl,rfl,rfl,by decide +kernel,rfl,by decide +kernel,by decide +kernel⟩
theorem zd3 (t:Txt K mg):FnOk P w K mg base (CX1 P w) 1 t.d_word_for.f t.d_word_for.fd ["number", "bits"] (spD K (yo t) qC 2) :=
 show FnOk P w K mg base (CX1 P w) 1 t.d_word_for.f t.d_word_for.fd ["number", "bits"] (spD K (yo t) (yx 4 zac) 2) from
 fnD (N:=["number", "bits", "word", "place"]) (ps:=["number", "bits"]) (k:=0) (m:=4) (n:=2) (g:=zac) (cl:=yo t) t.d_word_for.fn sc_word_for rfl rfl fun cdv A outer s H E hr =>
   (zq (zX (i:=2) sc_word_for.nd rfl (Or.inl rfl) (yU (l:=[]) (by decide +kernel) (uV (by decide +kernel) (by decide +kernel))))
   (zq (uY (vZ (i:=3) PassesOwn.never rfl (yI rfl t.n_range (zc (zf 1 (pv 1)) zu za) rfl) (zQ (i:=3) sc_word_for.nd rfl (Or.inl rfl))
   (zq (zX (i:=2) sc_word_for.nd rfl (Or.inl rfl) (yj vV qH (zaQ zcM n_str rfl t.n_str boot_str (zc (yj jB jQ (zf 0 (pv 0)) zE) zu wL) wL) (zf 2 (pv 2))))
   (zy (zX (i:=0) sc_word_for.nd rfl (Or.inl rfl) (yj kY j6 (zf 0 (pv 0)) zE))))))
   (zy (zR (zf 2 (pv 2))))))
theorem sc_words_of:FnScope ["book", "bits"] ["book"] (zj vH):=⟨rfl,rfl,rfl,by decide +kernel,rfl,by decide +kernel,by decide +kernel⟩
theorem jm (t:Txt K mg):FnOk P w K mg base (CX1 P w) 2 t.d_words_of.f t.d_words_of.fd ["book"] (spD K (yo t) vB 1) :=
 show FnOk P w K mg base (CX1 P w) 2 t.d_words_of.f t.d_words_of.fd ["book"] (spD K (yo t) (yx 2 jY) 1) from
 fnD (N:=["book", "bits"]) (ps:=["book"]) (k:=1) (m:=2) (n:=1) (g:=jY) (cl:=yo t) t.d_words_of.fn sc_words_of rfl rfl fun cdv A outer s H E hr =>
   (zq (zX (i:=1) sc_words_of.nd rfl (Or.inr rfl) (zF (za0 t) (hr.mono (by decide)) rfl t.d_bits_for.mg t.d_bits_for.fn.kp t.d_bits_for.bd xP (zc (zO zZ n_len rfl t.n_len boot_len (zc (zf 0 (pv 0)) zu za) za) zu zN) zN))
   (zy (zR (wZ (x := "number") (caps:=[1]) (yQ (fs:=zj vH) (N:=["book", "bits"]) rfl rfl (by decide +kernel)) rfl (yI rfl t.n_range (zc (zO zZ n_len rfl t.n_len boot_len (zc (zf 0 (pv 0)) zu za) za) zu zN) rfl) ⟨fun _ _ _ _ _=>(zQ (i:=0) (u0 (N:=["number", "bits"]) rfl (by decide +kernel)) rfl (Or.inl rfl)),fun _ _ _ _ _=>wH,fun _ _ _ _ _=>(zF (zd3 t) (hr.mono (by decide)) rfl t.d_word_for.mg t.d_word_for.fn.kp t.d_word_for.bd qT (zc (zf 0 (pv 0)) (zc (zf 1 (pv 1)) zu za) za) za)⟩))))
theorem sc_text_of_words:FnScope ["book", "words", "pieces", "word"] ["book", "words"] (zj yH):=⟨rfl,rfl,rfl,by decide +kernel,rfl,by decide +kernel,by decide +kernel⟩
theorem zaw (t:Txt K mg):FnOk P w K mg base (CX1 P w) 3 t.d_text_of_words.f t.d_text_of_words.fd ["book", "words"] (spD K (yo t) zL 2) :=
 show FnOk P w K mg base (CX1 P w) 3 t.d_text_of_words.f t.d_text_of_words.fd ["book", "words"] (spD K (yo t) (yx 4 xY) 2) from
 fnD (N:=["book", "words", "pieces", "word"]) (ps:=["book", "words"]) (k:=2) (m:=4) (n:=2) (g:=xY) (cl:=yo t) t.d_text_of_words.fn sc_text_of_words rfl rfl fun cdv A outer s H E hr =>
   (zq (zX (i:=2) sc_text_of_words.nd rfl (Or.inr rfl) (zfg rfl rfl t.n_dict rfl t.n_zip (zF (jm t) (hr.mono (by decide)) rfl t.d_words_of.mg t.d_words_of.fn.kp t.d_words_of.bd xP (zc (zf 0 (pv 0)) zu za) za) (zf 0 (pv 0))))
   (zq (vZ (i:=3) PassesOwn.leaving rfl (uT (zf 1 (pv 1))) (zQ (i:=3) sc_text_of_words.nd rfl (Or.inl rfl))
   (zy (ug (zfs (zln hr) (zf 3 (pv 3)) (zf 2 (pv 2)))
   (zy (jD t.x_NoWord rfl rfl (zc (yU (l:=[111,110,101,32,111,102,32,116,104,101,115,101,32,105,115,32,110,111,32,119,111,114,100,32,111,102,32,97,32,112,105,101,99,101]) (by decide +kernel) (uV (by decide +kernel) (by decide +kernel))) zu zm) zm))
   yJ)))
   (zy (zR (zdF (yU (l:=[]) (by decide +kernel) (uV (by decide +kernel) (by decide +kernel))) (wZ (x := "word") (caps:=[2]) (yQ (fs:=zj yH) (N:=["book", "words", "pieces", "word"]) rfl rfl (by decide +kernel)) rfl (uT (zf 1 (pv 1))) ⟨fun _ _ _ _ _=>(zQ (i:=0) (u0 (N:=["word", "pieces"]) rfl (by decide +kernel)) rfl (Or.inl rfl)),fun _ _ _ _ _=>wH,fun _ _ _ _ _=>(zlb (zln hr) (zf 1 (pv 1)) (zf 0 (pv 0)))⟩) ⟨rfl,rfl,rfl,rfl,rfl⟩)))))
theorem sc_from_word:FnScope ["many", "book", "signs", "number", "words"] ["many", "book", "signs", "number"] (zj vz):=⟨rfl,rfl,rfl,by decide +kernel,rfl,by decide +kernel,by decide +kernel⟩
theorem zc6 (t:Txt K mg):FnOk P w K mg base (CX1 P w) 7 t.d_from_word.f t.d_from_word.fd ["many", "book", "signs", "number"] (spD K (yo t) yN 4) :=
 show FnOk P w K mg base (CX1 P w) 7 t.d_from_word.f t.d_from_word.fd ["many", "book", "signs", "number"] (spD K (yo t) (yx 5 vy) 4) from
 fnD (N:=["many", "book", "signs", "number", "words"]) (ps:=["many", "book", "signs", "number"]) (k:=6) (m:=5) (n:=4) (g:=vy) (cl:=yo t) t.d_from_word.fn sc_from_word rfl rfl fun cdv A outer s H E hr =>
   (zq (j4 (zF (uh t) (hr.mono (by decide)) rfl t.d_require_book.mg t.d_require_book.fn.kp t.d_require_book.bd xP (zc (zf 0 (pv 0)) (zc (zf 1 (pv 1)) zu za) za) za))
   (zq (zX (i:=4) sc_from_word.nd rfl (Or.inl rfl) (zF (zbs t) (hr.mono (by decide)) rfl t.d_whole_words.mg t.d_whole_words.fn.kp t.d_whole_words.bd xP (zc (zf 1 (pv 1)) (zc (zf 2 (pv 2)) zu za) za) za))
   (zy (zR (zF (zaw t) (hr.mono (by decide)) rfl t.d_text_of_words.mg t.d_text_of_words.fn.kp t.d_text_of_words.bd xP (zc (zf 1 (pv 1)) (zc (xT (zf 4 (pv 4)) (wI (zO (zhb rfl) n_max rfl t.n_max boot_max (zc (zf 3 (pv 3)) (zc zE zu zm) za) za)) vW) zu v8) za) za)))))
theorem zkl:FnScope ["many", "book", "signs"] ["many", "book", "signs"] (zj zbL):=⟨rfl,rfl,rfl,by decide +kernel,rfl,by decide +kernel,by decide +kernel⟩
theorem zg1 (t:Txt K mg):FnOk P w K mg base (CX1 P w) 8 t.d_back.f t.d_back.fd ["many", "book", "signs"] (spD K (yo t) xR 3) :=
 show FnOk P w K mg base (CX1 P w) 8 t.d_back.f t.d_back.fd ["many", "book", "signs"] (spD K (yo t) (yx 3 zdq) 3) from
 fnD (N:=["many", "book", "signs"]) (ps:=["many", "book", "signs"]) (k:=7) (m:=3) (n:=3) (g:=zdq) (cl:=yo t) t.d_back.fn zkl rfl rfl fun cdv A outer s H E hr =>
   (zy (zR (zF (zc6 t) (hr.mono (by decide)) rfl t.d_from_word.mg t.d_from_word.fn.kp t.d_from_word.bd xP (zc (zf 0 (pv 0)) (zc (zf 1 (pv 1)) (zc (zf 2 (pv 2)) (zc zE zu zm) za) za) za) za)))
theorem jJ:FnScope ["thing", "least", "most"] ["thing", "least", "most"] (zj yE):=⟨rfl,rfl,rfl,by decide +kernel,rfl,by decide +kernel,by decide +kernel⟩
theorem jO (t:Txt K mg):FnOk P w K mg base (CX1 P w) 3 t.d_require_between.f t.d_require_between.fd ["thing", "least", "most"] (spD K (yo t) xW 3) :=
 show FnOk P w K mg base (CX1 P w) 3 t.d_require_between.f t.d_require_between.fd ["thing", "least", "most"] (spD K (yo t) (yx 3 vm) 3) from
 fnD (N:=["thing", "least", "most"]) (ps:=["thing", "least", "most"]) (k:=2) (m:=3) (n:=3) (g:=vm) (cl:=yo t) t.d_require_between.fn jJ rfl rfl fun cdv A outer s H E hr =>
   (zy (ug (zal (jf (zF (jE t) (hr.mono (by decide)) rfl t.d_is_between.mg t.d_is_between.fn.kp t.d_is_between.bd xP (zc (zf 0 (pv 0)) (zc (zf 1 (pv 1)) (zc (zf 2 (pv 2)) zu za) za) za) za)))
   (zy (jD t.x_NoSize rfl rfl (zc (yU (l:=[116,104,105,115,32,105,115,32,110,111,32,119,104,111,108,101,32,110,117,109,98,101,114,32,119,105,116,104,105,110,32,105,116,115,32,98,111,117,110,100,115]) (by decide +kernel) (uV (by decide +kernel) (by decide +kernel))) zu zm) zm))
   yJ))
theorem zbU:FnScope ["sign"] ["sign"] (zj wR):=⟨rfl,rfl,rfl,by decide +kernel,rfl,by decide +kernel,by decide +kernel⟩
theorem zb9 (t:Txt K mg):FnOk P w K mg base (CX1 P w) 1 t.d_other_sign.f t.d_other_sign.fd ["sign"] (spD K (yo t) qD 1) :=
 show FnOk P w K mg base (CX1 P w) 1 t.d_other_sign.f t.d_other_sign.fd ["sign"] (spD K (yo t) (yx 1 qN) 1) from
 fnD (N:=["sign"]) (ps:=["sign"]) (k:=0) (m:=1) (n:=1) (g:=qN) (cl:=yo t) t.d_other_sign.fn zbU rfl rfl fun cdv A outer s H E hr =>
   (zy (zR (zb0 (xV (zah hr.units) ziP (zf 0 (pv 0)) (yU (l:=[48]) (by decide +kernel) (uV (by decide +kernel) (by decide +kernel))) (xu _)) (yU (l:=[49]) (by decide +kernel) (uV (by decide +kernel) (by decide +kernel))) (yU (l:=[48]) (by decide +kernel) (uV (by decide +kernel) (by decide +kernel))))))
theorem zfZ:FnScope ["signs", "place"] ["signs", "place"] (zj kW):=⟨rfl,rfl,rfl,by decide +kernel,rfl,by decide +kernel,by decide +kernel⟩
theorem zdy (t:Txt K mg):FnOk P w K mg base (CX1 P w) 2 t.d_spoilt.f t.d_spoilt.fd ["signs", "place"] (spD K (yo t) vO 2) :=
 show FnOk P w K mg base (CX1 P w) 2 t.d_spoilt.f t.d_spoilt.fd ["signs", "place"] (spD K (yo t) (yx 2 zcj) 2) from
 fnD (N:=["signs", "place"]) (ps:=["signs", "place"]) (k:=1) (m:=2) (n:=2) (g:=zcj) (cl:=yo t) t.d_spoilt.fn zfZ rfl rfl fun cdv A outer s H E hr =>
   (zy (zR (yj vV qH (yj vV qH (xT (zf 0 (pv 0)) vW (wI (zf 1 (pv 1)))) (zF (zb9 t) (hr.mono (by decide)) rfl t.d_other_sign.mg t.d_other_sign.fn.kp t.d_other_sign.bd xP (zc (qL (zf 0 (pv 0)) (zf 1 (pv 1)) (fun _ _=>rfl)) zu v8) v8)) (xT (zf 0 (pv 0)) (wI (yj vg vf (zf 1 (pv 1)) zE)) vW))))
theorem ze8:FnScope ["many", "book", "signs", "place"] ["many", "book", "signs", "place"] (zj u9):=⟨rfl,rfl,rfl,by decide +kernel,rfl,by decide +kernel,by decide +kernel⟩
theorem zfd (t:Txt K mg):FnOk P w K mg base (CX1 P w) 9 t.d_flipped.f t.d_flipped.fd ["many", "book", "signs", "place"] (spD K (yo t) vo 4) :=
 show FnOk P w K mg base (CX1 P w) 9 t.d_flipped.f t.d_flipped.fd ["many", "book", "signs", "place"] (spD K (yo t) (yx 4 jK) 4) from
 fnD (N:=["many", "book", "signs", "place"]) (ps:=["many", "book", "signs", "place"]) (k:=8) (m:=4) (n:=4) (g:=jK) (cl:=yo t) t.d_flipped.fn ze8 rfl rfl fun cdv A outer s H E hr =>
   (zq (j4 (zF (zg1 t) (hr.mono (by decide)) rfl t.d_back.mg t.d_back.fn.kp t.d_back.bd xP (zc (zf 0 (pv 0)) (zc (zf 1 (pv 1)) (zc (zf 2 (pv 2)) zu za) za) za) za))
   (zq (j4 (zF (jO t) (hr.mono (by decide)) rfl t.d_require_between.mg t.d_require_between.fn.kp t.d_require_between.bd xP (zc (zf 3 (pv 3)) (zc zE (zc (yj zlV zlO (zO zZ n_len rfl t.n_len boot_len (zc (zf 2 (pv 2)) zu za) za) zE) zu wL) zm) za) za))
   (zy (zR (zF (zg1 t) (hr.mono (by decide)) rfl t.d_back.mg t.d_back.fn.kp t.d_back.bd xP (zc (zf 0 (pv 0)) (zc (zf 1 (pv 1)) (zc (zF (zdy t) (hr.mono (by decide)) rfl t.d_spoilt.mg t.d_spoilt.fn.kp t.d_spoilt.bd xP (zc (zf 2 (pv 2)) (zc (zf 3 (pv 3)) zu za) za) za) zu zN) za) za) za)))))
theorem sc_risky:FnScope ["many", "book", "words", "found", "word", "place"] ["many", "book"] (zj zaa):=⟨rfl,rfl,rfl,by decide +kernel,rfl,by decide +kernel,by decide +kernel⟩
theorem zh2 (t:Txt K mg):FnOk P w K mg base (CX1 P w) 7 t.d_risky.f t.d_risky.fd ["many", "book"] (spD K (yo t) kh 2) :=
 show FnOk P w K mg base (CX1 P w) 7 t.d_risky.f t.d_risky.fd ["many", "book"] (spD K (yo t) (yx 6 zdT) 2) from
 fnD (N:=["many", "book", "words", "found", "word", "place"]) (ps:=["many", "book"]) (k:=6) (m:=6) (n:=2) (g:=zdT) (cl:=yo t) t.d_risky.fn sc_risky rfl rfl fun cdv A outer s H E hr =>
   (zq (j4 (zF (uh t) (hr.mono (by decide)) rfl t.d_require_book.mg t.d_require_book.fn.kp t.d_require_book.bd xP (zc (zf 0 (pv 0)) (zc (zf 1 (pv 1)) zu za) za) za))
   (zq (zX (i:=2) sc_risky.nd rfl (Or.inl rfl) (zF (jm t) (hr.mono (by decide)) rfl t.d_words_of.mg t.d_words_of.fn.kp t.d_words_of.bd xP (zc (zf 1 (pv 1)) zu za) za))
   (zq (zcc (i:=3) sc_risky.nd rfl (Or.inl rfl) (zgI zu))
   (zq (uY (vZ (i:=4) PassesOwn.never rfl (uT (zf 2 (pv 2))) (zQ (i:=4) sc_risky.nd rfl (Or.inl rfl))
   (zy (vZ (i:=5) PassesOwn.never rfl (yI rfl t.n_range (zc (zO zZ n_len rfl t.n_len boot_len (zc (zf 4 (pv 4)) zu za) za) zu zN) rfl) (zQ (i:=5) sc_risky.nd rfl (Or.inl rfl))
   (zy (ug (xV uI zl5 (zF (zdy t) (hr.mono (by decide)) rfl t.d_spoilt.mg t.d_spoilt.fn.kp t.d_spoilt.bd qT (zc (zf 4 (pv 4)) (zc (zf 5 (pv 5)) zu za) za) za) (zf 2 (pv 2)) (by with_unfolding_all rfl))
   (zy (zbm (pv 3) (zeE (zc (zf 4 (pv 4)) (zc (zf 5 (pv 5)) zu za) za)) ⟨zaJ,rfl,rfl,rfl,rfl⟩))
   yJ))))))
   (zy (zc4 (i:=3) (zR (zf 3 (pv 3)))))))))
theorem zat:FnScope ["book", "thing"] ["book", "thing"] (zj yP):=⟨rfl,rfl,rfl,by decide +kernel,rfl,by decide +kernel,by decide +kernel⟩
theorem zaA (t:Txt K mg):FnOk P w K mg base (CX1 P w) 1 t.d_require_piece.f t.d_require_piece.fd ["book", "thing"] (spD K (yo t) wM 2) :=
 show FnOk P w K mg base (CX1 P w) 1 t.d_require_piece.f t.d_require_piece.fd ["book", "thing"] (spD K (yo t) (yx 2 ul) 2) from
 fnD (N:=["book", "thing"]) (ps:=["book", "thing"]) (k:=0) (m:=2) (n:=2) (g:=ul) (cl:=yo t) t.d_require_piece.fn zat rfl rfl fun cdv A outer s H E hr =>
   (zy (ug (xV uI zl5 (zf 1 (pv 1)) (zf 0 (pv 0)) (by with_unfolding_all rfl))
   (zy (jD t.x_NoPiece rfl rfl (zc (yU (l:=[116,104,105,115,32,105,115,32,110,111,32,112,105,101,99,101,32,111,102,32,116,104,101,32,98,111,111,107]) (by decide +kernel) (uV (by decide +kernel) (by decide +kernel))) zu zm) zm))
   yJ))
theorem zft:FnScope ["many", "book", "piece"] ["many", "book", "piece"] (zj u6):=⟨rfl,rfl,rfl,by decide +kernel,rfl,by decide +kernel,by decide +kernel⟩
theorem zbN (t:Txt K mg):FnOk P w K mg base (CX1 P w) 7 t.d_word_of.f t.d_word_of.fd ["many", "book", "piece"] (spD K (yo t) wF 3) :=
 show FnOk P w K mg base (CX1 P w) 7 t.d_word_of.f t.d_word_of.fd ["many", "book", "piece"] (spD K (yo t) (yx 3 zbh) 3) from
 fnD (N:=["many", "book", "piece"]) (ps:=["many", "book", "piece"]) (k:=6) (m:=3) (n:=3) (g:=zbh) (cl:=yo t) t.d_word_of.fn zft rfl rfl fun cdv A outer s H E hr =>
   (zq (j4 (zF (uh t) (hr.mono (by decide)) rfl t.d_require_book.mg t.d_require_book.fn.kp t.d_require_book.bd xP (zc (zf 0 (pv 0)) (zc (zf 1 (pv 1)) zu za) za) za))
   (zq (j4 (zF (zaA t) (hr.mono (by decide)) rfl t.d_require_piece.mg t.d_require_piece.fn.kp t.d_require_piece.bd xP (zc (zf 1 (pv 1)) (zc (zf 2 (pv 2)) zu za) za) za))
   (zy (zR (qL (zF (jm t) (hr.mono (by decide)) rfl t.d_words_of.mg t.d_words_of.fn.kp t.d_words_of.bd xP (zc (zf 1 (pv 1)) zu za) za) (zj0 (zf 1 (pv 1)) (zf 2 (pv 2)) ⟨za,rfl,rfl,rfl,rfl⟩) (fun _ _=>rfl))))))
theorem sc_unlike:FnScope ["many", "book", "one", "other", "one_word", "other_word"] ["many", "book", "one", "other"] (zj qm):=⟨rfl,rfl,rfl,by decide +kernel,rfl,by decide +kernel,by decide +kernel⟩
theorem zgt (t:Txt K mg):FnOk P w K mg base (CX1 P w) 8 t.d_unlike.f t.d_unlike.fd ["many", "book", "one", "other"] (spD K (yo t) um 4) :=
 show FnOk P w K mg base (CX1 P w) 8 t.d_unlike.f t.d_unlike.fd ["many", "book", "one", "other"] (spD K (yo t) (yx 6 zcg) 4) from
 fnD (N:=["many", "book", "one", "other", "one_word", "other_word"]) (ps:=["many", "book", "one", "other"]) (k:=7) (m:=6) (n:=4) (g:=zcg) (cl:=yo t) t.d_unlike.fn sc_unlike rfl rfl fun cdv A outer s H E hr =>
   (zq (zX (i:=4) sc_unlike.nd rfl (Or.inr rfl) (zF (zbN t) (hr.mono (by decide)) rfl t.d_word_of.mg t.d_word_of.fn.kp t.d_word_of.bd xP (zc (zf 0 (pv 0)) (zc (zf 1 (pv 1)) (zc (zf 2 (pv 2)) zu za) za) za) za))
   (zq (zX (i:=5) sc_unlike.nd rfl (Or.inr rfl) (zF (zbN t) (hr.mono (by decide)) rfl t.d_word_of.mg t.d_word_of.fn.kp t.d_word_of.bd xP (zc (zf 0 (pv 0)) (zc (zf 1 (pv 1)) (zc (zf 3 (pv 3)) zu za) za) za) za))
   (zy (zR (zO zZ n_len rfl t.n_len boot_len (zc (wZ (x := "place") (caps:=[4,5]) (yQ (fs:=zj qm) (N:=["many", "book", "one", "other", "one_word", "other_word"]) rfl rfl (by decide +kernel)) rfl (yI rfl t.n_range (zc (zO zZ n_len rfl t.n_len boot_len (zc (zf 4 (pv 4)) zu za) za) zu zN) rfl) ⟨fun _ _ _ _ _=>(zQ (i:=0) (u0 (N:=["place", "one_word", "other_word"]) rfl (by decide +kernel)) rfl (Or.inl rfl)),fun _ _ _ _ _=>(zcn (xV (uM hr.units) zel (qL (zf 1 (pv 1)) (zf 0 (pv 0)) (fun _ _=>rfl)) (qL (zf 2 (pv 2)) (zf 0 (pv 0)) (fun _ _=>rfl)) (xu _))),fun _ _ _ _ _=>(zf 0 (pv 0))⟩) zu rfl) rfl)))))
theorem sc__law_refused:FnScope ["_law_e", "_law_flags"] ["_law_e"] (zj xM):=⟨rfl,rfl,rfl,by decide +kernel,rfl,by decide +kernel,by decide +kernel⟩
theorem zaX (t:Txt K mg):FnOkH P w K mg base 1 t.d__law_refused.f t.d__law_refused.fd ["_law_e"] (spD K (yo t) qX 1) :=
 show FnOkH P w K mg base 1 t.d__law_refused.f t.d__law_refused.fd ["_law_e"] (spD K (yo t) (yx 2 uQ) 1) from
 zno (N:=["_law_e", "_law_flags"]) (ps:=["_law_e"]) (k:=0) (m:=2) (n:=1) (g:=uQ) (cl:=yo t) t.d__law_refused.fn sc__law_refused rfl rfl fun cdv A outer s H hr =>
   (zq (zX (i:=1) sc__law_refused.nd rfl (Or.inl rfl) (zam (zc (zbl (tab:=[(1,true),(2,false),(4,false),(5,false)]) (yw ⟨t.e_NoBook,.inl ⟨_,rfl,t.k_NoBook_NoBook⟩⟩ (yw ⟨t.e_NoPiece,.inl ⟨_,rfl,t.k_NoPiece_NoBook⟩⟩ (yw ⟨t.e_NoWord,.inl ⟨_,rfl,t.k_NoWord_NoBook⟩⟩ (yw ⟨t.e_NoSize,.inl ⟨_,rfl,t.k_NoSize_NoBook⟩⟩ zaU)))) rfl t.n_isinstance (zf 0 (pv 0)) (qj (v:=.ref t.x_NoBook.C) rfl t.x_NoBook.mgx rfl) za) (zc (zbl (tab:=[(1,false),(2,false),(4,true),(5,false)]) (yw ⟨t.e_NoBook,.inl ⟨_,rfl,t.k_NoBook_NoWord⟩⟩ (yw ⟨t.e_NoPiece,.inl ⟨_,rfl,t.k_NoPiece_NoWord⟩⟩ (yw ⟨t.e_NoWord,.inl ⟨_,rfl,t.k_NoWord_NoWord⟩⟩ (yw ⟨t.e_NoSize,.inl ⟨_,rfl,t.k_NoSize_NoWord⟩⟩ zaU)))) rfl t.n_isinstance (zf 0 (pv 0)) (qj (v:=.ref t.x_NoWord.C) rfl t.x_NoWord.mgx rfl) za) (zc (zbl (tab:=[(1,false),(2,false),(4,false),(5,true)]) (yw ⟨t.e_NoBook,.inl ⟨_,rfl,t.k_NoBook_NoSize⟩⟩ (yw ⟨t.e_NoPiece,.inl ⟨_,rfl,t.k_NoPiece_NoSize⟩⟩ (yw ⟨t.e_NoWord,.inl ⟨_,rfl,t.k_NoWord_NoSize⟩⟩ (yw ⟨t.e_NoSize,.inl ⟨_,rfl,t.k_NoSize_NoSize⟩⟩ zaU)))) rfl t.n_isinstance (zf 0 (pv 0)) (qj (v:=.ref t.x_NoSize.C) rfl t.x_NoSize.mgx rfl) za) zu zN) zN) zN)))
   (zq (zX (i:=1) sc__law_refused.nd rfl (Or.inl rfl) (XL.xe (zgN (zf 1 (pv 1)) (zam (zc (zbl (tab:=[(1,false),(2,true),(4,false),(5,false)]) (yw ⟨t.e_NoBook,.inl ⟨_,rfl,t.k_NoBook_NoPiece⟩⟩ (yw ⟨t.e_NoPiece,.inl ⟨_,rfl,t.k_NoPiece_NoPiece⟩⟩ (yw ⟨t.e_NoWord,.inl ⟨_,rfl,t.k_NoWord_NoPiece⟩⟩ (yw ⟨t.e_NoSize,.inl ⟨_,rfl,t.k_NoSize_NoPiece⟩⟩ zaU)))) rfl t.n_isinstance (zf 0 (pv 0)) (qj (v:=.ref t.x_NoPiece.C) rfl t.x_NoPiece.mgx rfl) za) zu zN)))))
   (zq (ug (XW.xt (zjE (xV (uM hr.units) zel (zko (zf 1 (pv 1)) zad ⟨zm,rfl,rfl,rfl,rfl⟩) zE (xu _)) (zgg (zal (jf (zbl (tab:=[(1,true),(2,true),(4,true),(5,true)]) (yw ⟨t.e_NoBook,.inr ⟨_,rfl,t.v_NoBook⟩⟩ (yw ⟨t.e_NoPiece,.inr ⟨_,rfl,t.v_NoPiece⟩⟩ (yw ⟨t.e_NoWord,.inr ⟨_,rfl,t.v_NoWord⟩⟩ (yw ⟨t.e_NoSize,.inr ⟨_,rfl,t.v_NoSize⟩⟩ zaU)))) rfl t.n_isinstance (zf 0 (pv 0)) (jZ (v:=.ty "ValueError") rfl t.n_ValueError zbi rfl) za))))))
   (zy (zR (XEw.out (jg (ye (je (l:=[114,101,102,117,115,101,100]) (by decide +kernel) (uV (by decide +kernel) (by decide +kernel))) (ye (XEw.mk (zgm zE)) uW zgR) zm)))))
   yJ)
   (zy (zR (XEw.out (jg (ye (je (l:=[114,101,102,117,115,101,100]) (by decide +kernel) (uV (by decide +kernel) (by decide +kernel))) (ye (XEw.mk (zjb (zf 1 (pv 1)) zad ⟨zm,rfl,rfl,rfl,rfl⟩)) uW zN) zm))))))))
theorem sc__law_told:FnScope ["_law_way", "_law_many", "_law_book_here", "_law_one", "_law_other", "_law_e"] ["_law_way", "_law_many", "_law_book_here", "_law_one", "_law_other"] (zj vI):=⟨rfl,rfl,rfl,by decide +kernel,rfl,by decide +kernel,by decide +kernel⟩
theorem yS (t:Txt K mg):FnOk P w K mg base (CX1 P w) 10 t.d__law_told.f t.d__law_told.fd ["_law_way", "_law_many", "_law_book_here", "_law_one", "_law_other"] (spD K (yo t) zK 5) :=
 show FnOk P w K mg base (CX1 P w) 10 t.d__law_told.f t.d__law_told.fd ["_law_way", "_law_many", "_law_book_here", "_law_one", "_law_other"] (spD K (yo t) (yx 6 jk) 5) from
 fnD (N:=["_law_way", "_law_many", "_law_book_here", "_law_one", "_law_other", "_law_e"]) (ps:=["_law_way", "_law_many", "_law_book_here", "_law_one", "_law_other"]) (k:=9) (m:=6) (n:=5) (g:=jk) (cl:=yo t) t.d__law_told.fn sc__law_told rfl rfl fun cdv A outer s H E hr =>
   (zy (zjB (i:=5) (cs:=[1,2,4,5]) (zk0 (xV (zah hr.units) ziP (zf 0 (pv 0)) zE (xu _)) (zhd (zd0 (zfd t) (hr.mono (by decide)) rfl t.d_flipped.mg t.d_flipped.fn.kp t.d_flipped.bd (zc (zf 1 (pv 1)) (zc (zf 2 (pv 2)) (zc (zf 3 (pv 3)) (zc (zf 4 (pv 4)) zu za) za) za) za) za)) (zhd (zmB (xV (zah hr.units) ziP (zf 0 (pv 0)) zE (xu _)) (zd0 (zh2 t) (hr.mono (by decide)) rfl t.d_risky.mg t.d_risky.fn.kp t.d_risky.bd (zc (zf 1 (pv 1)) (zc (zf 2 (pv 2)) zu za) za) za) (zd0 (zgt t) (hr.mono (by decide)) rfl t.d_unlike.mg t.d_unlike.fn.kp t.d_unlike.bd (zc (zf 1 (pv 1)) (zc (zf 2 (pv 2)) (zc (zf 3 (pv 3)) (zc (zf 4 (pv 4)) zu za) za) za) za) za)))) t.x_PieceError rfl sc__law_told.nd rfl rfl (jy t.s_NoBook (jy t.s_NoPiece (jy t.s_NoWord (jy t.s_NoSize zhJ)))) (fun _=>(zhX (zaX t) ((hr.mono (by decide)).hand _) rfl t.d__law_refused.mg t.d__law_refused.fn.kp t.d__law_refused.bd (zc (zf 5 (pv 5)) zu za) za)) rfl rfl))
theorem sc__law_refuses:FnScope ["_law_many", "_law_book_here", "_law_signs", "_law_bad"] ["_law_many", "_law_book_here", "_law_signs"] (zj yD):=⟨rfl,rfl,rfl,by decide +kernel,rfl,by decide +kernel,by decide +kernel⟩
theorem zbc (t:Txt K mg):FnOk P w K mg base (CX1 P w) 11 t.d__law_refuses.f t.d__law_refuses.fd ["_law_many", "_law_book_here", "_law_signs"] (spD K (yo t) uw 3) :=
 show FnOk P w K mg base (CX1 P w) 11 t.d__law_refuses.f t.d__law_refuses.fd ["_law_many", "_law_book_here", "_law_signs"] (spD K (yo t) (yx 4 uP) 3) from
 fnD (N:=["_law_many", "_law_book_here", "_law_signs", "_law_bad"]) (ps:=["_law_many", "_law_book_here", "_law_signs"]) (k:=10) (m:=4) (n:=3) (g:=uP) (cl:=yo t) t.d__law_refuses.fn sc__law_refuses rfl rfl fun cdv A outer s H E hr =>
   (zq (uY (vZ (i:=3) PassesOwn.never rfl (zcR (XEw.out (jg (ye (XEw.mk (zgm zE)) (ye (XEw.mk (zO zZ n_len rfl t.n_len boot_len (zc (zf 2 (pv 2)) zu za) za)) (ye ziT (ye zmD (ye (je (l:=[48]) (by decide +kernel) (uV (by decide +kernel) (by decide +kernel))) uW zm) zm) zm) zN) zgR)))) (zQ (i:=3) sc__law_refuses.nd rfl (Or.inl rfl))
   (zq (ug (xV (uM hr.units) zel (zF (yS t) (hr.mono (by decide)) rfl t.d__law_told.mg t.d__law_told.fn.kp t.d__law_told.bd qT (zc zE (zc (zf 0 (pv 0)) (zc (zf 1 (pv 1)) (zc (zf 2 (pv 2)) (zc (zf 3 (pv 3)) zu za) za) za) za) zm) zm) (XEw.out (jg (ye (je (l:=[114,101,102,117,115,101,100]) (by decide +kernel) (uV (by decide +kernel) (by decide +kernel))) (ye zbe uW zm) zm))) (xu _))
   (zy (zR zad))
   yJ)
   (zq (ug (xV (uM hr.units) zel (zF (yS t) (hr.mono (by decide)) rfl t.d__law_told.mg t.d__law_told.fn.kp t.d__law_told.bd qT (zc zE (zc (zf 0 (pv 0)) (zc (zf 1 (pv 1)) (zc (zf 3 (pv 3)) (zc jG zu zm) za) za) za) zm) zm) (XEw.out (jg (ye (je (l:=[114,101,102,117,115,101,100]) (by decide +kernel) (uV (by decide +kernel) (by decide +kernel))) (ye zbe uW zm) zm))) (xu _))
   (zy (zR zad))
   yJ)
   (zy (ug (xV (uM hr.units) zel (zF (yS t) (hr.mono (by decide)) rfl t.d__law_told.mg t.d__law_told.fn.kp t.d__law_told.bd qT (zc zE (zc (zf 0 (pv 0)) (zc (zf 1 (pv 1)) (zc (qL (zf 1 (pv 1)) zE (fun _ _=>rfl)) (zc (zf 3 (pv 3)) zu za) v8) za) za) zm) zm) (XEw.out (jg (ye (je (l:=[114,101,102,117,115,101,100]) (by decide +kernel) (uV (by decide +kernel) (by decide +kernel))) (ye zbe uW zm) zm))) (xu _))
   (zy (zR zad))
   yJ))))))
   (zq (ug (xV (uM hr.units) zel (wZ (x := "_law_bad") (caps:=[0,1]) (yQ (fs:=zj yD) (N:=["_law_many", "_law_book_here", "_law_signs", "_law_bad"]) rfl rfl (by decide +kernel)) rfl (zcR (XEw.out (jg (ye (XEw.mk (yj vV qH (zf 2 (pv 2)) (yU (l:=[120]) (by decide +kernel) (uV (by decide +kernel) (by decide +kernel))))) (ye (XEw.mk (yj vV qH (zf 2 (pv 2)) (yU (l:=[50]) (by decide +kernel) (uV (by decide +kernel) (by decide +kernel))))) (ye ziT (ye zbe uW zm) zm) wL) wL)))) ⟨fun _ _ _ _ _=>(zQ (i:=0) (u0 (N:=["_law_bad", "_law_many", "_law_book_here"]) rfl (by decide +kernel)) rfl (Or.inl rfl)),fun _ _ _ _ _=>wH,fun _ _ _ _ _=>(zF (yS t) (hr.mono (by decide)) rfl t.d__law_told.mg t.d__law_told.fn.kp t.d__law_told.bd qT (zc zE (zc (zf 1 (pv 1)) (zc (zf 2 (pv 2)) (zc (zf 0 (pv 0)) (zc jG zu zm) za) za) za) zm) zm)⟩) (XL.xe (zf6 (XEw.out (zfX (ye (jg (ye (je (l:=[114,101,102,117,115,101,100]) (by decide +kernel) (uV (by decide +kernel) (by decide +kernel))) (ye zbe uW zm) zm)) uW zaJ))) zE)) (xu _))
   (zy (zR zad))
   yJ)
   (zy (zR (zbA (zah hr.units) ziP (wZ (x := "_law_way") (caps:=[0,1]) (yQ (fs:=zj yD) (N:=["_law_many", "_law_book_here", "_law_signs", "_law_bad"]) rfl rfl (by decide +kernel)) rfl (yI rfl t.n_range (zc zE zu zm) rfl) ⟨fun _ _ _ _ _=>(zQ (i:=0) (u0 (N:=["_law_way", "_law_many", "_law_book_here"]) rfl (by decide +kernel)) rfl (Or.inl rfl)),fun _ _ _ _ _=>wH,fun _ _ _ _ _=>(zF (yS t) (hr.mono (by decide)) rfl t.d__law_told.mg t.d__law_told.fn.kp t.d__law_told.bd qT (zc (zf 0 (pv 0)) (zc (zf 1 (pv 1)) (zc (xT (zf 2 (pv 2)) vW (wI (zgm zE))) (zc jG (zc jG zu zm) zm) v8) za) za) za)⟩) (XL.xe (zf6 (XEw.out (zfX (ye (jg (ye (je (l:=[114,101,102,117,115,101,100]) (by decide +kernel) (uV (by decide +kernel) (by decide +kernel))) (ye zbe uW zm) zm)) uW zaJ))) zE)) (xu _))))))
theorem sc_law:FnScope ["_law_script", "_law_many", "_law_book_here", "_law_words", "_law_long", "_law_numbers", "_law_signs", "_law_place", "_law_other", "_law_some", "_law_due", "_law_rows", "_law_word", "_law_k", "_law_one", "_law_far"] ["_law_script"] (zj zaC):=⟨rfl,rfl,rfl,by decide +kernel,rfl,by decide +kernel,by decide +kernel⟩
theorem zlm (t:Txt K mg):FnOk P w K mg base (CX1 P w) 12 t.d_law.f t.d_law.fd ["_law_script"] (spD K (yo t) ziw 1) :=
 show FnOk P w K mg base (CX1 P w) 12 t.d_law.f t.d_law.fd ["_law_script"] (spD K (yo t) (yx 16 zi2) 1) from
 fnD (N:=["_law_script", "_law_many", "_law_book_here", "_law_words", "_law_long", "_law_numbers", "_law_signs", "_law_place", "_law_other", "_law_some", "_law_due", "_law_rows", "_law_word", "_law_k", "_law_one", "_law_far"]) (ps:=["_law_script"]) (k:=11) (m:=16) (n:=1) (g:=zi2) (cl:=yo t) t.d_law.fn sc_law rfl rfl fun cdv A outer s H E hr =>
   (zq (zX (i:=1) sc_law.nd rfl (Or.inl rfl) (yj vg vf zE (zF (yV t) (hr.mono (by decide)) rfl t.d__law_drawn.mg t.d__law_drawn.fn.kp t.d__law_drawn.bd xP (zc (zf 0 (pv 0)) (zc zE (zc zE zu zm) zm) za) za)))
   (zq (zX (i:=2) sc_law.nd rfl (Or.inr rfl) (zF (zdo t) (hr.mono (by decide)) rfl t.d__law_book.mg t.d__law_book.fn.kp t.d__law_book.bd xP (zc (zf 0 (pv 0)) (zc zE (zc (zf 1 (pv 1)) (zc (zF (yV t) (hr.mono (by decide)) rfl t.d__law_drawn.mg t.d__law_drawn.fn.kp t.d__law_drawn.bd xP (zc (zf 0 (pv 0)) (zc zE (zc zE zu zm) zm) za) za) zu zN) za) zm) za) za))
   (zq (zX (i:=3) sc_law.nd rfl (Or.inr rfl) (zF (zda t) (hr.mono (by decide)) rfl t.d__law_bits.mg t.d__law_bits.fn.kp t.d__law_bits.bd xP (zc (zf 2 (pv 2)) zu za) za))
   (zq (zX (i:=4) sc_law.nd rfl (Or.inr rfl) (zO zZ n_len rfl t.n_len boot_len (zc (qL (zf 3 (pv 3)) zE (fun _ _=>rfl)) zu v8) v8))
   (zq (zdL (j:=5) sc_law.nd rfl rfl (x := "_law_k") (caps:=[0,2]) (yQ (fs:=zj zaC) (N:=["_law_script", "_law_many", "_law_book_here", "_law_words", "_law_long", "_law_numbers", "_law_signs", "_law_place", "_law_other", "_law_some", "_law_due", "_law_rows", "_law_word", "_law_k", "_law_one", "_law_far"]) rfl rfl (by decide +kernel)) rfl (yI rfl t.n_range (zc (yj vg vf zE (zF (yV t) (hr.mono (by decide)) rfl t.d__law_drawn.mg t.d__law_drawn.fn.kp t.d__law_drawn.bd xP (zc (zf 0 (pv 0)) (zc zE (zc zE zu zm) zm) za) za)) zu wL) rfl) ⟨fun _ _ _ _ _=>(zQ (i:=0) (u0 (N:=["_law_k", "_law_script", "_law_book_here"]) rfl (by decide +kernel)) rfl (Or.inl rfl)),fun _ _ _ _ _=>wH,fun _ _ _ _ _=>(zF (yV t) (hr.mono (by decide)) rfl t.d__law_drawn.mg t.d__law_drawn.fn.kp t.d__law_drawn.bd qT (zc (zf 1 (pv 1)) (zc (yj vg vf zE (zf 0 (pv 0))) (zc (zO zZ n_len rfl t.n_len boot_len (zc (zf 2 (pv 2)) zu za) za) zu zN) wL) za) za)⟩ rfl)
   (zq (zX (i:=6) sc_law.nd rfl (Or.inl rfl) (zdF (yU (l:=[]) (by decide +kernel) (uV (by decide +kernel) (by decide +kernel))) (wZ (x := "_law_number") (caps:=[3]) (yQ (fs:=zj zaC) (N:=["_law_script", "_law_many", "_law_book_here", "_law_words", "_law_long", "_law_numbers", "_law_signs", "_law_place", "_law_other", "_law_some", "_law_due", "_law_rows", "_law_word", "_law_k", "_law_one", "_law_far"]) rfl rfl (by decide +kernel)) rfl (uT (zf 5 (pv 5))) ⟨fun _ _ _ _ _=>(zQ (i:=0) (u0 (N:=["_law_number", "_law_words"]) rfl (by decide +kernel)) rfl (Or.inl rfl)),fun _ _ _ _ _=>wH,fun _ _ _ _ _=>(qL (zf 1 (pv 1)) (zf 0 (pv 0)) (fun _ _=>rfl))⟩) ⟨rfl,rfl,rfl,rfl,rfl⟩))
   (zq (uY (vZ (i:=7) PassesOwn.never rfl (yI rfl t.n_range (zc (zO zZ n_len rfl t.n_len boot_len (zc (zf 6 (pv 6)) zu za) za) zu zN) rfl) (zQ (i:=7) sc_law.nd rfl (Or.inl rfl))
   (zq (zX (i:=8) sc_law.nd rfl (Or.inr rfl) (yj vV qH (yj vV qH (xT (zf 6 (pv 6)) vW (wI (zf 7 (pv 7)))) (zb0 (xV (zah hr.units) ziP (qL (zf 6 (pv 6)) (zf 7 (pv 7)) (fun _ _=>rfl)) (yU (l:=[48]) (by decide +kernel) (uV (by decide +kernel) (by decide +kernel))) (xu _)) (yU (l:=[49]) (by decide +kernel) (uV (by decide +kernel) (by decide +kernel))) (yU (l:=[48]) (by decide +kernel) (uV (by decide +kernel) (by decide +kernel))))) (xT (zf 6 (pv 6)) (wI (yj vg vf (zf 7 (pv 7)) zE)) vW)))
   (zq (zdL (j:=9) sc_law.nd rfl rfl (x := "_law_k") (caps:=[8,4]) (yQ (fs:=zj zaC) (N:=["_law_script", "_law_many", "_law_book_here", "_law_words", "_law_long", "_law_numbers", "_law_signs", "_law_place", "_law_other", "_law_some", "_law_due", "_law_rows", "_law_word", "_law_k", "_law_one", "_law_far"]) rfl rfl (by decide +kernel)) rfl (zde rfl t.n_range (zc zE (zc (zO zZ n_len rfl t.n_len boot_len (zc (zf 8 (pv 8)) zu za) za) (zc (zf 4 (pv 4)) zu za) zN) zm) rfl rfl) ⟨fun _ _ _ _ _=>(zQ (i:=0) (u0 (N:=["_law_k", "_law_other", "_law_long"]) rfl (by decide +kernel)) rfl (Or.inl rfl)),fun _ _ _ _ _=>wH,fun _ _ _ _ _=>(xT (zf 1 (pv 1)) (wI (zf 0 (pv 0))) (wI (yj vg vf (zf 0 (pv 0)) (zf 2 (pv 2)))))⟩ rfl)
   (zq (zX (i:=10) sc_law.nd rfl (Or.inl rfl) (XEw.out (jg (ye (je (l:=[114,101,102,117,115,101,100]) (by decide +kernel) (uV (by decide +kernel) (by decide +kernel))) (ye zbe uW zm) zm))))
   (zq (ug (xV (zah hr.units) ziP (wZ (x := "_law_word") (caps:=[3]) (yQ (fs:=zj zaC) (N:=["_law_script", "_law_many", "_law_book_here", "_law_words", "_law_long", "_law_numbers", "_law_signs", "_law_place", "_law_other", "_law_some", "_law_due", "_law_rows", "_law_word", "_law_k", "_law_one", "_law_far"]) rfl rfl (by decide +kernel)) rfl (uT (zf 9 (pv 9))) ⟨fun _ _ _ _ _=>(zQ (i:=0) (u0 (N:=["_law_word", "_law_words"]) rfl (by decide +kernel)) rfl (Or.inl rfl)),fun _ _ _ _ _=>(zcn (xV uI zl5 (zf 0 (pv 0)) (zf 1 (pv 1)) (by with_unfolding_all rfl))),fun _ _ _ _ _=>(zf 0 (pv 0))⟩) (zam zu) (xu _))
   (zy (zX (i:=10) sc_law.nd rfl (Or.inl rfl) (zdF (yU (l:=[]) (by decide +kernel) (uV (by decide +kernel) (by decide +kernel))) (wZ (x := "_law_word") (caps:=[2,3]) (yQ (fs:=zj zaC) (N:=["_law_script", "_law_many", "_law_book_here", "_law_words", "_law_long", "_law_numbers", "_law_signs", "_law_place", "_law_other", "_law_some", "_law_due", "_law_rows", "_law_word", "_law_k", "_law_one", "_law_far"]) rfl rfl (by decide +kernel)) rfl (uT (zf 9 (pv 9))) ⟨fun _ _ _ _ _=>(zQ (i:=0) (u0 (N:=["_law_word", "_law_book_here", "_law_words"]) rfl (by decide +kernel)) rfl (Or.inl rfl)),fun _ _ _ _ _=>wH,fun _ _ _ _ _=>(qL (zf 1 (pv 1)) (zja (zf 2 (pv 2)) (zf 0 (pv 0)) ⟨za,rfl,rfl,rfl,rfl⟩) (fun _ _=>rfl))⟩) ⟨rfl,rfl,rfl,rfl,rfl⟩)))
   yJ)
   (zy (ug (xV (uM hr.units) zel (zF (yS t) (hr.mono (by decide)) rfl t.d__law_told.mg t.d__law_told.fn.kp t.d__law_told.bd qT (zc zE (zc (zf 1 (pv 1)) (zc (zf 2 (pv 2)) (zc (zf 6 (pv 6)) (zc (zf 7 (pv 7)) zu za) za) za) za) zm) zm) (zf 10 (pv 10)) (xu _))
   (zy (zR zad))
   yJ))))))))
   (zq (zX (i:=11) sc_law.nd rfl (Or.inl rfl) (zam zu))
   (zq (uY (vZ (i:=12) PassesOwn.never rfl (uT (zf 3 (pv 3))) (zQ (i:=12) sc_law.nd rfl (Or.inl rfl))
   (zy (vZ (i:=7) PassesOwn.never rfl (yI rfl t.n_range (zc (zf 4 (pv 4)) zu za) rfl) (zQ (i:=7) sc_law.nd rfl (Or.inl rfl))
   (zq (zX (i:=8) sc_law.nd rfl (Or.inr rfl) (yj vV qH (yj vV qH (xT (zf 12 (pv 12)) vW (wI (zf 7 (pv 7)))) (zb0 (xV (zah hr.units) ziP (qL (zf 12 (pv 12)) (zf 7 (pv 7)) (fun _ _=>rfl)) (yU (l:=[48]) (by decide +kernel) (uV (by decide +kernel) (by decide +kernel))) (xu _)) (yU (l:=[49]) (by decide +kernel) (uV (by decide +kernel) (by decide +kernel))) (yU (l:=[48]) (by decide +kernel) (uV (by decide +kernel) (by decide +kernel))))) (xT (zf 12 (pv 12)) (wI (yj vg vf (zf 7 (pv 7)) zE)) vW)))
   (zy (zX (i:=11) sc_law.nd rfl (Or.inl rfl) (XL.xe (zgN (zf 11 (pv 11)) (XL.xe (zf6 (zam (zc (zeE (zc (zf 12 (pv 12)) (zc (zf 7 (pv 7)) zu za) za)) zu zaJ)) (zaQ zgf n_int rfl t.n_int boot_int (zc (zbA uI zl5 (zf 8 (pv 8)) (zf 3 (pv 3)) (by with_unfolding_all rfl)) zu rfl) rfl))))))))))))
   (zq (ug (xV (uM hr.units) zel (zF (yS t) (hr.mono (by decide)) rfl t.d__law_told.mg t.d__law_told.fn.kp t.d__law_told.bd xP (zc zE (zc (zf 1 (pv 1)) (zc (zf 2 (pv 2)) (zc jG (zc jG zu zm) zm) za) za) zm) zm) (XL.xe (zhU rfl t.n_sorted boot_sorted (zf 11 (pv 11)) za)) (xu _))
   (zy (zR zad))
   yJ)
   (zq (uY (vZ (i:=13) PassesOwn.never rfl (yI rfl t.n_range (zc zE zu zm) rfl) (zQ (i:=13) sc_law.nd rfl (Or.inl rfl))
   (zq (zX (i:=14) sc_law.nd rfl (Or.inl rfl) (zF (yV t) (hr.mono (by decide)) rfl t.d__law_drawn.mg t.d__law_drawn.fn.kp t.d__law_drawn.bd qT (zc (zf 0 (pv 0)) (zc (yj vg vf zE (yj uN jh zE (zf 13 (pv 13)))) (zc (zO zZ n_len rfl t.n_len boot_len (zc (zf 2 (pv 2)) zu za) za) zu zN) wL) za) za))
   (zq (zX (i:=8) sc_law.nd rfl (Or.inr rfl) (zF (yV t) (hr.mono (by decide)) rfl t.d__law_drawn.mg t.d__law_drawn.fn.kp t.d__law_drawn.bd qT (zc (zf 0 (pv 0)) (zc (yj vg vf zE (yj uN jh zE (zf 13 (pv 13)))) (zc (zO zZ n_len rfl t.n_len boot_len (zc (zf 2 (pv 2)) zu za) za) zu zN) wL) za) za))
   (zq (zX (i:=15) sc_law.nd rfl (Or.inl rfl) (zO zZ n_len rfl t.n_len boot_len (zc (XL.xe (zgO (x := "_law_mine") (y := "_law_yours") (caps:=[]) (yQ (fs:=zj zaC) (N:=["_law_script", "_law_many", "_law_book_here", "_law_words", "_law_long", "_law_numbers", "_law_signs", "_law_place", "_law_other", "_law_some", "_law_due", "_law_rows", "_law_word", "_law_k", "_law_one", "_law_far"]) rfl rfl (by decide +kernel)) rfl rfl t.n_zip (qL (zf 3 (pv 3)) (zf 14 (pv 14)) (fun _ _=>rfl)) (qL (zf 3 (pv 3)) (zf 8 (pv 8)) (fun _ _=>rfl)) ⟨fun _ _ _ _ _=>(zgn (K:=K) (i:=0) (j:=1) rfl rfl (u0 (N:=["_law_mine", "_law_yours"]) rfl (by decide +kernel)) rfl rfl (Or.inl rfl) (Or.inl rfl)),fun _ _ _ _ _=>(zcn (xV (uM hr.units) zel (zf 0 (pv 0)) (zf 1 (pv 1)) (xu _))),fun _ _ _ _ _=>zE⟩ rfl rfl)) zu rfl) rfl))
   (zy (ug (xV (uM hr.units) zel (zF (yS t) (hr.mono (by decide)) rfl t.d__law_told.mg t.d__law_told.fn.kp t.d__law_told.bd qT (zc zE (zc (zf 1 (pv 1)) (zc (zf 2 (pv 2)) (zc (qL (zf 2 (pv 2)) (zf 14 (pv 14)) (fun _ _=>rfl)) (zc (qL (zf 2 (pv 2)) (zf 8 (pv 8)) (fun _ _=>rfl)) zu v8) v8) za) za) zm) zm) (zf 15 (pv 15)) (xu _))
   (zy (zR zad))
   yJ)))))))
   (zy (zR (zF (zbc t) (hr.mono (by decide)) rfl t.d__law_refuses.mg t.d__law_refuses.fn.kp t.d__law_refuses.bd xP (zc (zf 1 (pv 1)) (zc (zf 2 (pv 2)) (zc (zf 6 (pv 6)) zu za) za) za) za))))))))))))))
end
end K42
namespace K42
open PySem L2
theorem all_mk {l:PySem.W.OpenLaw}{w:World}{K:PySem.W.Frag}{h:Heap}{mg:Str→Option Value}{fa f0 f1 f2 f3 f4 f5 f6 f7 f8 f9 f10 f11 f12 f13 f14 f15 f16 f17 f18 f19 f20 f21 f22 f23 f24 f25 f26 f27 f28 f29 f30 f31 f32 f33 f34 f35 f36:Addr}(X:K.In h)(G:h.Ns mainGlobals mg)(hfa:mg "law" = some (.ref fa))
  {od0 an0 od1 an1 od2 an2 od3 an3 od4 an4 od5 an5 od6 an6 od7 an7 od8 an8 od9 an9 od10 an10 od11 an11 od12 an12 od13 an13 od14 an14 od15 an15 od16 an16 od17 an17 od18 an18 od19 an19 od20 an20 od21 an21 od22 an22 od23 an23 od24 an24 od25 an25 od26 an26 od27 an27 od28 an28 od29 an29 od30 an30 od31 an31 od32 an32 od33 an33 od34 an34 od35 an35 od36 an36:Option Addr}{sl0 sl1 sl2 sl3 sl4 sl5 sl6 sl7 sl8 sl9 sl10 sl11 sl12 sl13 sl14 sl15 sl16 sl17 sl18 sl19 sl20 sl21 sl22 sl23 sl24 sl25 sl26 sl27 sl28 sl29 sl30 sl31 sl32 sl33 sl34 sl35 sl36:Array (Option Value)}{oc0 kV0 dc0 pm0 cd0 ct0 oc1 kV1 dc1 pm1 cd1 ct1 oc2 kV2 dc2 pm2 cd2 ct2 oc3 kV3 dc3 pm3 cd3 ct3 oc4 kV4 dc4 pm4 cd4 ct4 oc5 kV5 dc5 pm5 cd5 ct5 oc6 kV6 dc6 pm6 cd6 ct6 oc7 kV7 dc7 pm7 cd7 ct7 oc8 kV8 dc8 pm8 cd8 ct8 oc9 kV9 dc9 pm9 cd9 ct9 oc10 kV10 dc10 pm10 cd10 ct10 oc11 kV11 dc11 pm11 cd11 ct11 oc12 kV12 dc12 pm12 cd12 ct12 oc13 kV13 dc13 pm13 cd13 ct13 oc14 kV14 dc14 pm14 cd14 ct14 oc15 kV15 dc15 pm15 cd15 ct15 oc16 kV16 dc16 pm16 cd16 ct16 oc17 kV17 dc17 pm17 cd17 ct17 oc18 kV18 dc18 pm18 cd18 ct18 oc19 kV19 dc19 pm19 cd19 ct19 oc20 kV20 dc20 pm20 cd20 ct20 oc21 kV21 dc21 pm21 cd21 ct21 oc22 kV22 dc22 pm22 cd22 ct22 oc23 kV23 dc23 pm23 cd23 ct23 oc24 kV24 dc24 pm24 cd24 ct24 oc25 kV25 dc25 pm25 cd25 ct25 oc26 kV26 dc26 pm26 cd26 ct26 oc27 kV27 dc27 pm27 cd27 ct27 oc28 kV28 dc28 pm28 cd28 ct28 oc29 kV29 dc29 pm29 cd29 ct29 oc30 kV30 dc30 pm30 cd30 ct30 oc31 kV31 dc31 pm31 cd31 ct31 oc32 kV32 dc32 pm32 cd32 ct32 oc33 kV33 dc33 pm33 cd33 ct33 oc34 kV34 dc34 pm34 cd34 ct34 oc35 kV35 dc35 pm35 cd35 ct35 oc36 kV36 dc36 pm36 cd36 ct36:Value}{vFEWEST_LETTERS vLETTERS vMOST_PIECES:Value}
  (a0:PySem.W.nsIn K mainGlobals "_law_cell" = some (some (.ref f0))) (l0:K.lookup f0=some ⟨oc0,od0,.func (PySem.W.fnOf "_law_cell" "_law_cell" (zM vh) (zG vh) (zj vh) .none kV0 dc0 pm0 an0 cd0 ct0),sl0⟩) (c0:PySem.W.codeIn K cd0 "_law_cell" = true) (k0:PySem.W.keepIn K (.ref f0)=true)
  (a1:PySem.W.nsIn K mainGlobals "_law_drawn" = some (some (.ref f1))) (l1:K.lookup f1=some ⟨oc1,od1,.func (PySem.W.fnOf "_law_drawn" "_law_drawn" (zM wV) (zG wV) (zj wV) .none kV1 dc1 pm1 an1 cd1 ct1),sl1⟩) (c1:PySem.W.codeIn K cd1 "_law_drawn" = true) (k1:PySem.W.keepIn K (.ref f1)=true)
  (a2:PySem.W.nsIn K mainGlobals "_law_book" = some (some (.ref f2))) (l2:K.lookup f2=some ⟨oc2,od2,.func (PySem.W.fnOf "_law_book" "_law_book" (zM xX) (zG xX) (zj xX) .none kV2 dc2 pm2 an2 cd2 ct2),sl2⟩) (c2:PySem.W.codeIn K cd2 "_law_book" = true) (k2:PySem.W.keepIn K (.ref f2)=true)
  (a3:PySem.W.nsIn K mainGlobals "_law_bits" = some (some (.ref f3))) (l3:K.lookup f3=some ⟨oc3,od3,.func (PySem.W.fnOf "_law_bits" "_law_bits" (zM vD) (zG vD) (zj vD) .none kV3 dc3 pm3 an3 cd3 ct3),sl3⟩) (c3:PySem.W.codeIn K cd3 "_law_bits" = true) (k3:PySem.W.keepIn K (.ref f3)=true)
  (a4:PySem.W.nsIn K mainGlobals "is_rising" = some (some (.ref f4))) (l4:K.lookup f4=some ⟨oc4,od4,.func (PySem.W.fnOf "is_rising" "is_rising" (zM wO) (zG wO) (zj wO) .none kV4 dc4 pm4 an4 cd4 ct4),sl4⟩) (c4:PySem.W.codeIn K cd4 "is_rising" = true) (k4:PySem.W.keepIn K (.ref f4)=true)
  (a5:PySem.W.nsIn K mainGlobals "is_whole" = some (some (.ref f5))) (l5:K.lookup f5=some ⟨oc5,od5,.func (PySem.W.fnOf "is_whole" "is_whole" (zM uf) (zG uf) (zj uf) .none kV5 dc5 pm5 an5 cd5 ct5),sl5⟩) (c5:PySem.W.codeIn K cd5 "is_whole" = true) (k5:PySem.W.keepIn K (.ref f5)=true)
  (a6:PySem.W.nsIn K mainGlobals "is_between" = some (some (.ref f6))) (l6:K.lookup f6=some ⟨oc6,od6,.func (PySem.W.fnOf "is_between" "is_between" (zM wU) (zG wU) (zj wU) .none kV6 dc6 pm6 an6 cd6 ct6),sl6⟩) (c6:PySem.W.codeIn K cd6 "is_between" = true) (k6:PySem.W.keepIn K (.ref f6)=true)
  (a7:PySem.W.nsIn K mainGlobals "is_number_of_letters" = some (some (.ref f7))) (l7:K.lookup f7=some ⟨oc7,od7,.func (PySem.W.fnOf "is_number_of_letters" "is_number_of_letters" (zM zW) (zG zW) (zj zW) .none kV7 dc7 pm7 an7 cd7 ct7),sl7⟩) (c7:PySem.W.codeIn K cd7 "is_number_of_letters" = true) (k7:PySem.W.keepIn K (.ref f7)=true)
  (a8:PySem.W.nsIn K mainGlobals "is_text_of" = some (some (.ref f8))) (l8:K.lookup f8=some ⟨oc8,od8,.func (PySem.W.fnOf "is_text_of" "is_text_of" (zM xZ) (zG xZ) (zj xZ) .none kV8 dc8 pm8 an8 cd8 ct8),sl8⟩) (c8:PySem.W.codeIn K cd8 "is_text_of" = true) (k8:PySem.W.keepIn K (.ref f8)=true)
  (a9:PySem.W.nsIn K mainGlobals "are_pieces" = some (some (.ref f9))) (l9:K.lookup f9=some ⟨oc9,od9,.func (PySem.W.fnOf "are_pieces" "are_pieces" (zM wB) (zG wB) (zj wB) .none kV9 dc9 pm9 an9 cd9 ct9),sl9⟩) (c9:PySem.W.codeIn K cd9 "are_pieces" = true) (k9:PySem.W.keepIn K (.ref f9)=true)
  (a10:PySem.W.nsIn K mainGlobals "first_pair" = some (some (.ref f10))) (l10:K.lookup f10=some ⟨oc10,od10,.func (PySem.W.fnOf "first_pair" "first_pair" (zM wQ) (zG wQ) (zj wQ) .none kV10 dc10 pm10 an10 cd10 ct10),sl10⟩) (c10:PySem.W.codeIn K cd10 "first_pair" = true) (k10:PySem.W.keepIn K (.ref f10)=true)
  (a11:PySem.W.nsIn K mainGlobals "gone_on" = some (some (.ref f11))) (l11:K.lookup f11=some ⟨oc11,od11,.func (PySem.W.fnOf "gone_on" "gone_on" (zM u5) (zG u5) (zj u5) .none kV11 dc11 pm11 an11 cd11 ct11),sl11⟩) (c11:PySem.W.codeIn K cd11 "gone_on" = true) (k11:PySem.W.keepIn K (.ref f11)=true)
  (a12:PySem.W.nsIn K mainGlobals "is_apart" = some (some (.ref f12))) (l12:K.lookup f12=some ⟨oc12,od12,.func (PySem.W.fnOf "is_apart" "is_apart" (zM vA) (zG vA) (zj vA) .none kV12 dc12 pm12 an12 cd12 ct12),sl12⟩) (c12:PySem.W.codeIn K cd12 "is_apart" = true) (k12:PySem.W.keepIn K (.ref f12)=true)
  (a13:PySem.W.nsIn K mainGlobals "is_inner" = some (some (.ref f13))) (l13:K.lookup f13=some ⟨oc13,od13,.func (PySem.W.fnOf "is_inner" "is_inner" (zM vG) (zG vG) (zj vG) .none kV13 dc13 pm13 an13 cd13 ct13),sl13⟩) (c13:PySem.W.codeIn K cd13 "is_inner" = true) (k13:PySem.W.keepIn K (.ref f13)=true)
  (a14:PySem.W.nsIn K mainGlobals "first_text_apart" = some (some (.ref f14))) (l14:K.lookup f14=some ⟨oc14,od14,.func (PySem.W.fnOf "first_text_apart" "first_text_apart" (zM yd) (zG yd) (zj yd) .none kV14 dc14 pm14 an14 cd14 ct14),sl14⟩) (c14:PySem.W.codeIn K cd14 "first_text_apart" = true) (k14:PySem.W.keepIn K (.ref f14)=true)
  (a15:PySem.W.nsIn K mainGlobals "first_paper" = some (some (.ref f15))) (l15:K.lookup f15=some ⟨oc15,od15,.func (PySem.W.fnOf "first_paper" "first_paper" (zM wD) (zG wD) (zj wD) .none kV15 dc15 pm15 an15 cd15 ct15),sl15⟩) (c15:PySem.W.codeIn K cd15 "first_paper" = true) (k15:PySem.W.keepIn K (.ref f15)=true)
  (a16:PySem.W.nsIn K mainGlobals "is_book" = some (some (.ref f16))) (l16:K.lookup f16=some ⟨oc16,od16,.func (PySem.W.fnOf "is_book" "is_book" (zM uZ) (zG uZ) (zj uZ) .none kV16 dc16 pm16 an16 cd16 ct16),sl16⟩) (c16:PySem.W.codeIn K cd16 "is_book" = true) (k16:PySem.W.keepIn K (.ref f16)=true)
  (a17:PySem.W.nsIn K mainGlobals "require_book" = some (some (.ref f17))) (l17:K.lookup f17=some ⟨oc17,od17,.func (PySem.W.fnOf "require_book" "require_book" (zM xK) (zG xK) (zj xK) .none kV17 dc17 pm17 an17 cd17 ct17),sl17⟩) (c17:PySem.W.codeIn K cd17 "require_book" = true) (k17:PySem.W.keepIn K (.ref f17)=true)
  (a18:PySem.W.nsIn K mainGlobals "bits_for" = some (some (.ref f18))) (l18:K.lookup f18=some ⟨oc18,od18,.func (PySem.W.fnOf "bits_for" "bits_for" (zM uc) (zG uc) (zj uc) .none kV18 dc18 pm18 an18 cd18 ct18),sl18⟩) (c18:PySem.W.codeIn K cd18 "bits_for" = true) (k18:PySem.W.keepIn K (.ref f18)=true)
  (a19:PySem.W.nsIn K mainGlobals "whole_words" = some (some (.ref f19))) (l19:K.lookup f19=some ⟨oc19,od19,.func (PySem.W.fnOf "whole_words" "whole_words" (zM yW) (zG yW) (zj yW) .none kV19 dc19 pm19 an19 cd19 ct19),sl19⟩) (c19:PySem.W.codeIn K cd19 "whole_words" = true) (k19:PySem.W.keepIn K (.ref f19)=true)
  (a20:PySem.W.nsIn K mainGlobals "word_for" = some (some (.ref f20))) (l20:K.lookup f20=some ⟨oc20,od20,.func (PySem.W.fnOf "word_for" "word_for" (zM v9) (zG v9) (zj v9) .none kV20 dc20 pm20 an20 cd20 ct20),sl20⟩) (c20:PySem.W.codeIn K cd20 "word_for" = true) (k20:PySem.W.keepIn K (.ref f20)=true)
  (a21:PySem.W.nsIn K mainGlobals "words_of" = some (some (.ref f21))) (l21:K.lookup f21=some ⟨oc21,od21,.func (PySem.W.fnOf "words_of" "words_of" (zM vH) (zG vH) (zj vH) .none kV21 dc21 pm21 an21 cd21 ct21),sl21⟩) (c21:PySem.W.codeIn K cd21 "words_of" = true) (k21:PySem.W.keepIn K (.ref f21)=true)
  (a22:PySem.W.nsIn K mainGlobals "text_of_words" = some (some (.ref f22))) (l22:K.lookup f22=some ⟨oc22,od22,.func (PySem.W.fnOf "text_of_words" "text_of_words" (zM yH) (zG yH) (zj yH) .none kV22 dc22 pm22 an22 cd22 ct22),sl22⟩) (c22:PySem.W.codeIn K cd22 "text_of_words" = true) (k22:PySem.W.keepIn K (.ref f22)=true)
  (a23:PySem.W.nsIn K mainGlobals "from_word" = some (some (.ref f23))) (l23:K.lookup f23=some ⟨oc23,od23,.func (PySem.W.fnOf "from_word" "from_word" (zM vz) (zG vz) (zj vz) .none kV23 dc23 pm23 an23 cd23 ct23),sl23⟩) (c23:PySem.W.codeIn K cd23 "from_word" = true) (k23:PySem.W.keepIn K (.ref f23)=true)
  (a24:PySem.W.nsIn K mainGlobals "back" = some (some (.ref f24))) (l24:K.lookup f24=some ⟨oc24,od24,.func (PySem.W.fnOf "back" "back" (zM zbL) (zG zbL) (zj zbL) .none kV24 dc24 pm24 an24 cd24 ct24),sl24⟩) (c24:PySem.W.codeIn K cd24 "back" = true) (k24:PySem.W.keepIn K (.ref f24)=true)
  (a25:PySem.W.nsIn K mainGlobals "require_between" = some (some (.ref f25))) (l25:K.lookup f25=some ⟨oc25,od25,.func (PySem.W.fnOf "require_between" "require_between" (zM yE) (zG yE) (zj yE) .none kV25 dc25 pm25 an25 cd25 ct25),sl25⟩) (c25:PySem.W.codeIn K cd25 "require_between" = true) (k25:PySem.W.keepIn K (.ref f25)=true)
  (a26:PySem.W.nsIn K mainGlobals "other_sign" = some (some (.ref f26))) (l26:K.lookup f26=some ⟨oc26,od26,.func (PySem.W.fnOf "other_sign" "other_sign" (zM wR) (zG wR) (zj wR) .none kV26 dc26 pm26 an26 cd26 ct26),sl26⟩) (c26:PySem.W.codeIn K cd26 "other_sign" = true) (k26:PySem.W.keepIn K (.ref f26)=true)
  (a27:PySem.W.nsIn K mainGlobals "spoilt" = some (some (.ref f27))) (l27:K.lookup f27=some ⟨oc27,od27,.func (PySem.W.fnOf "spoilt" "spoilt" (zM kW) (zG kW) (zj kW) .none kV27 dc27 pm27 an27 cd27 ct27),sl27⟩) (c27:PySem.W.codeIn K cd27 "spoilt" = true) (k27:PySem.W.keepIn K (.ref f27)=true)
  (a28:PySem.W.nsIn K mainGlobals "flipped" = some (some (.ref f28))) (l28:K.lookup f28=some ⟨oc28,od28,.func (PySem.W.fnOf "flipped" "flipped" (zM u9) (zG u9) (zj u9) .none kV28 dc28 pm28 an28 cd28 ct28),sl28⟩) (c28:PySem.W.codeIn K cd28 "flipped" = true) (k28:PySem.W.keepIn K (.ref f28)=true)
  (a29:PySem.W.nsIn K mainGlobals "risky" = some (some (.ref f29))) (l29:K.lookup f29=some ⟨oc29,od29,.func (PySem.W.fnOf "risky" "risky" (zM zaa) (zG zaa) (zj zaa) .none kV29 dc29 pm29 an29 cd29 ct29),sl29⟩) (c29:PySem.W.codeIn K cd29 "risky" = true) (k29:PySem.W.keepIn K (.ref f29)=true)
  (a30:PySem.W.nsIn K mainGlobals "require_piece" = some (some (.ref f30))) (l30:K.lookup f30=some ⟨oc30,od30,.func (PySem.W.fnOf "require_piece" "require_piece" (zM yP) (zG yP) (zj yP) .none kV30 dc30 pm30 an30 cd30 ct30),sl30⟩) (c30:PySem.W.codeIn K cd30 "require_piece" = true) (k30:PySem.W.keepIn K (.ref f30)=true)
  (a31:PySem.W.nsIn K mainGlobals "word_of" = some (some (.ref f31))) (l31:K.lookup f31=some ⟨oc31,od31,.func (PySem.W.fnOf "word_of" "word_of" (zM u6) (zG u6) (zj u6) .none kV31 dc31 pm31 an31 cd31 ct31),sl31⟩) (c31:PySem.W.codeIn K cd31 "word_of" = true) (k31:PySem.W.keepIn K (.ref f31)=true)
  (a32:PySem.W.nsIn K mainGlobals "unlike" = some (some (.ref f32))) (l32:K.lookup f32=some ⟨oc32,od32,.func (PySem.W.fnOf "unlike" "unlike" (zM qm) (zG qm) (zj qm) .none kV32 dc32 pm32 an32 cd32 ct32),sl32⟩) (c32:PySem.W.codeIn K cd32 "unlike" = true) (k32:PySem.W.keepIn K (.ref f32)=true)
  (a33:PySem.W.nsIn K mainGlobals "_law_refused" = some (some (.ref f33))) (l33:K.lookup f33=some ⟨oc33,od33,.func (PySem.W.fnOf "_law_refused" "_law_refused" (zM xM) (zG xM) (zj xM) .none kV33 dc33 pm33 an33 cd33 ct33),sl33⟩) (c33:PySem.W.codeIn K cd33 "_law_refused" = true) (k33:PySem.W.keepIn K (.ref f33)=true)
  (a34:PySem.W.nsIn K mainGlobals "_law_told" = some (some (.ref f34))) (l34:K.lookup f34=some ⟨oc34,od34,.func (PySem.W.fnOf "_law_told" "_law_told" (zM vI) (zG vI) (zj vI) .none kV34 dc34 pm34 an34 cd34 ct34),sl34⟩) (c34:PySem.W.codeIn K cd34 "_law_told" = true) (k34:PySem.W.keepIn K (.ref f34)=true)
  (a35:PySem.W.nsIn K mainGlobals "_law_refuses" = some (some (.ref f35))) (l35:K.lookup f35=some ⟨oc35,od35,.func (PySem.W.fnOf "_law_refuses" "_law_refuses" (zM yD) (zG yD) (zj yD) .none kV35 dc35 pm35 an35 cd35 ct35),sl35⟩) (c35:PySem.W.codeIn K cd35 "_law_refuses" = true) (k35:PySem.W.keepIn K (.ref f35)=true)
  (a36:PySem.W.nsIn K mainGlobals "law" = some (some (.ref f36))) (l36:K.lookup f36=some ⟨oc36,od36,.func (PySem.W.fnOf "law" "law" (zM zaC) (zG zaC) (zj zaC) .none kV36 dc36 pm36 an36 cd36 ct36),sl36⟩) (c36:PySem.W.codeIn K cd36 "law" = true) (k36:PySem.W.keepIn K (.ref f36)=true)
  (wFEWEST_LETTERS:PySem.W.nsIn K mainGlobals "FEWEST_LETTERS" = some (some vFEWEST_LETTERS)) (rFEWEST_LETTERS:RelV (.int (2)) vFEWEST_LETTERS)
  (wLETTERS:PySem.W.nsIn K mainGlobals "LETTERS" = some (some vLETTERS)) (rLETTERS:RelV (.str (T [97,98,99,100])) vLETTERS)
  (wMOST_PIECES:PySem.W.nsIn K mainGlobals "MOST_PIECES" = some (some vMOST_PIECES)) (rMOST_PIECES:RelV (.int (32)) vMOST_PIECES)
  (zValueError:PySem.W.nsIn K mainGlobals "ValueError" = some none)
  (zall:PySem.W.nsIn K mainGlobals "all" = some none)
  (zany:PySem.W.nsIn K mainGlobals "any" = some none)
  (zbool:PySem.W.nsIn K mainGlobals "bool" = some none)
  (zdict:PySem.W.nsIn K mainGlobals "dict" = some none)
  (zint:PySem.W.nsIn K mainGlobals "int" = some none)
  (zisinstance:PySem.W.nsIn K mainGlobals "isinstance" = some none)
  (zlen:PySem.W.nsIn K mainGlobals "len" = some none)
  (zmax:PySem.W.nsIn K mainGlobals "max" = some none)
  (zrange:PySem.W.nsIn K mainGlobals "range" = some none)
  (zsorted:PySem.W.nsIn K mainGlobals "sorted" = some none)
  (zstr:PySem.W.nsIn K mainGlobals "str" = some none)
  (ztuple:PySem.W.nsIn K mainGlobals "tuple" = some none)
  (zzip:PySem.W.nsIn K mainGlobals "zip" = some none)
  {xa_NoBook xa_NoPiece xa_NoSize xa_NoWord xa_PieceError:Addr}
  (y_NoBook:PySem.W.nsIn K mainGlobals "NoBook" = some (some (.ref xa_NoBook))) (q_NoBook:PySem.W.excIn K xa_NoBook [.type "ValueError", .type "Exception", .type "BaseException", .type "object"] "ValueError.__new__" = true)
  (y_NoPiece:PySem.W.nsIn K mainGlobals "NoPiece" = some (some (.ref xa_NoPiece))) (q_NoPiece:PySem.W.excIn K xa_NoPiece [.type "ValueError", .type "Exception", .type "BaseException", .type "object"] "ValueError.__new__" = true)
  (y_NoSize:PySem.W.nsIn K mainGlobals "NoSize" = some (some (.ref xa_NoSize))) (q_NoSize:PySem.W.excIn K xa_NoSize [.type "ValueError", .type "Exception", .type "BaseException", .type "object"] "ValueError.__new__" = true)
  (y_NoWord:PySem.W.nsIn K mainGlobals "NoWord" = some (some (.ref xa_NoWord))) (q_NoWord:PySem.W.excIn K xa_NoWord [.type "ValueError", .type "Exception", .type "BaseException", .type "object"] "ValueError.__new__" = true)
  (y_PieceError:PySem.W.nsIn K mainGlobals "PieceError" = some (some (.ref xa_PieceError))) (q_PieceError:PySem.W.excIn K xa_PieceError [.type "ValueError", .type "Exception", .type "BaseException", .type "object"] "ValueError.__new__" = true)
  (ga_NoBook:PySem.W.findIn K (.ref xa_NoBook) "__getattribute__" = some (some (.builtin "BaseException.__getattribute__")))
  (gt_NoBook:PySem.W.findIn K (.ref xa_NoBook) "__getattr__" = some none)
  (cl_NoBook:PySem.W.findIn K (.ref xa_NoBook) "__class__" = some (some (.builtin "object.__class__")))
  (be_NoBook:PySem.W.subIn K (.ref xa_NoBook) (.type "BaseException")=some true)
  (ob_NoBook:PySem.W.subIn K (.ref xa_NoBook) (.type "object")=some true)
  (is_NoBook:PySem.W.isClsIn K xa_NoBook=true)
  (fs_NoBook:PySem.W.subIn K (.ref xa_NoBook) (.ref xa_PieceError)=some true)
  (fk_NoBook_NoBook:PySem.W.kitOne K (.ref xa_NoBook) (.ref xa_NoBook)=some true)
  (fk_NoBook_NoWord:PySem.W.kitOne K (.ref xa_NoBook) (.ref xa_NoWord)=some false)
  (fk_NoBook_NoSize:PySem.W.kitOne K (.ref xa_NoBook) (.ref xa_NoSize)=some false)
  (fk_NoBook_NoPiece:PySem.W.kitOne K (.ref xa_NoBook) (.ref xa_NoPiece)=some false)
  (fv_NoBook:PySem.W.kitOne K (.ref xa_NoBook) (.type "ValueError")=some true)
  (ga_NoPiece:PySem.W.findIn K (.ref xa_NoPiece) "__getattribute__" = some (some (.builtin "BaseException.__getattribute__")))
  (gt_NoPiece:PySem.W.findIn K (.ref xa_NoPiece) "__getattr__" = some none)
  (cl_NoPiece:PySem.W.findIn K (.ref xa_NoPiece) "__class__" = some (some (.builtin "object.__class__")))
  (be_NoPiece:PySem.W.subIn K (.ref xa_NoPiece) (.type "BaseException")=some true)
  (ob_NoPiece:PySem.W.subIn K (.ref xa_NoPiece) (.type "object")=some true)
  (is_NoPiece:PySem.W.isClsIn K xa_NoPiece=true)
  (fs_NoPiece:PySem.W.subIn K (.ref xa_NoPiece) (.ref xa_PieceError)=some true)
  (fk_NoPiece_NoBook:PySem.W.kitOne K (.ref xa_NoPiece) (.ref xa_NoBook)=some false)
  (fk_NoPiece_NoWord:PySem.W.kitOne K (.ref xa_NoPiece) (.ref xa_NoWord)=some false)
  (fk_NoPiece_NoSize:PySem.W.kitOne K (.ref xa_NoPiece) (.ref xa_NoSize)=some false)
  (fk_NoPiece_NoPiece:PySem.W.kitOne K (.ref xa_NoPiece) (.ref xa_NoPiece)=some true)
  (fv_NoPiece:PySem.W.kitOne K (.ref xa_NoPiece) (.type "ValueError")=some true)
  (ga_NoWord:PySem.W.findIn K (.ref xa_NoWord) "__getattribute__" = some (some (.builtin "BaseException.__getattribute__")))
  (gt_NoWord:PySem.W.findIn K (.ref xa_NoWord) "__getattr__" = some none)
  (cl_NoWord:PySem.W.findIn K (.ref xa_NoWord) "__class__" = some (some (.builtin "object.__class__")))
  (be_NoWord:PySem.W.subIn K (.ref xa_NoWord) (.type "BaseException")=some true)
  (ob_NoWord:PySem.W.subIn K (.ref xa_NoWord) (.type "object")=some true)
  (is_NoWord:PySem.W.isClsIn K xa_NoWord=true)
  (fs_NoWord:PySem.W.subIn K (.ref xa_NoWord) (.ref xa_PieceError)=some true)
  (fk_NoWord_NoBook:PySem.W.kitOne K (.ref xa_NoWord) (.ref xa_NoBook)=some false)
  (fk_NoWord_NoWord:PySem.W.kitOne K (.ref xa_NoWord) (.ref xa_NoWord)=some true)
  (fk_NoWord_NoSize:PySem.W.kitOne K (.ref xa_NoWord) (.ref xa_NoSize)=some false)
  (fk_NoWord_NoPiece:PySem.W.kitOne K (.ref xa_NoWord) (.ref xa_NoPiece)=some false)
  (fv_NoWord:PySem.W.kitOne K (.ref xa_NoWord) (.type "ValueError")=some true)
  (ga_NoSize:PySem.W.findIn K (.ref xa_NoSize) "__getattribute__" = some (some (.builtin "BaseException.__getattribute__")))
  (gt_NoSize:PySem.W.findIn K (.ref xa_NoSize) "__getattr__" = some none)
  (cl_NoSize:PySem.W.findIn K (.ref xa_NoSize) "__class__" = some (some (.builtin "object.__class__")))
  (be_NoSize:PySem.W.subIn K (.ref xa_NoSize) (.type "BaseException")=some true)
  (ob_NoSize:PySem.W.subIn K (.ref xa_NoSize) (.type "object")=some true)
  (is_NoSize:PySem.W.isClsIn K xa_NoSize=true)
  (fs_NoSize:PySem.W.subIn K (.ref xa_NoSize) (.ref xa_PieceError)=some true)
  (fk_NoSize_NoBook:PySem.W.kitOne K (.ref xa_NoSize) (.ref xa_NoBook)=some false)
  (fk_NoSize_NoWord:PySem.W.kitOne K (.ref xa_NoSize) (.ref xa_NoWord)=some false)
  (fk_NoSize_NoSize:PySem.W.kitOne K (.ref xa_NoSize) (.ref xa_NoSize)=some true)
  (fk_NoSize_NoPiece:PySem.W.kitOne K (.ref xa_NoSize) (.ref xa_NoPiece)=some false)
  (fv_NoSize:PySem.W.kitOne K (.ref xa_NoSize) (.type "ValueError")=some true) :
  ∃fd:FuncData,(∀(s:Shared) (v:Value),BindsTo s fd ⟨[v],[]⟩ [("_law_script", v)])∧∀base:Heap,K.In base→base.Ns mainGlobals mg→FnOk l.prog w K mg base CX0 12 fa fd ["_law_script"] (zcQ K):=by
 have e:=hfa.symm.trans (PySem.W.mg_of X G a36)
 cases e
 have F0:=yh (st:=vh) l0 c0 k0
 have F1:=yh (st:=wV) l1 c1 k1
 have F2:=yh (st:=xX) l2 c2 k2
 have F3:=yh (st:=vD) l3 c3 k3
 have F4:=yh (st:=wO) l4 c4 k4
 have F5:=yh (st:=uf) l5 c5 k5
 have F6:=yh (st:=wU) l6 c6 k6
 have F7:=yh (st:=zW) l7 c7 k7
 have F8:=yh (st:=xZ) l8 c8 k8
 have F9:=yh (st:=wB) l9 c9 k9
 have F10:=yh (st:=wQ) l10 c10 k10
 have F11:=yh (st:=u5) l11 c11 k11
 have F12:=yh (st:=vA) l12 c12 k12
 have F13:=yh (st:=vG) l13 c13 k13
 have F14:=yh (st:=yd) l14 c14 k14
 have F15:=yh (st:=wD) l15 c15 k15
 have F16:=yh (st:=uZ) l16 c16 k16
 have F17:=yh (st:=xK) l17 c17 k17
 have F18:=yh (st:=uc) l18 c18 k18
 have F19:=yh (st:=yW) l19 c19 k19
 have F20:=yh (st:=v9) l20 c20 k20
 have F21:=yh (st:=vH) l21 c21 k21
 have F22:=yh (st:=yH) l22 c22 k22
 have F23:=yh (st:=vz) l23 c23 k23
 have F24:=yh (st:=zbL) l24 c24 k24
 have F25:=yh (st:=yE) l25 c25 k25
 have F26:=yh (st:=wR) l26 c26 k26
 have F27:=yh (st:=kW) l27 c27 k27
 have F28:=yh (st:=u9) l28 c28 k28
 have F29:=yh (st:=zaa) l29 c29 k29
 have F30:=yh (st:=yP) l30 c30 k30
 have F31:=yh (st:=u6) l31 c31 k31
 have F32:=yh (st:=qm) l32 c32 k32
 have F33:=yh (st:=xM) l33 c33 k33
 have F34:=yh (st:=vI) l34 c34 k34
 have F35:=yh (st:=yD) l35 c35 k35
 have F36:=yh (st:=zaC) l36 c36 k36
 have b0:=F0.binds (ps:=["_law_script", "_law_k"]) fun _ _ _ _ _ _ us hl=>by obtain⟨_,_,rfl⟩:=zdD hl;rfl
 have b1:=F1.binds (ps:=["_law_script", "_law_k", "_law_many"]) fun _ _ _ _ _ _ us hl=>by obtain⟨_,_,_,rfl⟩:=zj3 hl;rfl
 have b2:=F2.binds (ps:=["_law_script", "_law_at", "_law_many", "_law_turns"]) fun _ _ _ _ _ _ us hl=>by obtain⟨_,_,_,_,rfl⟩:=zlX hl;rfl
 have b3:=F3.binds (ps:=["_law_book_here"]) fun _ _ _ _ _ _ us hl=>by obtain⟨_,rfl⟩:=zgd hl;rfl
 have b4:=F4.binds (ps:=["texts"]) fun _ _ _ _ _ _ us hl=>by obtain⟨_,rfl⟩:=zgd hl;rfl
 have b5:=F5.binds (ps:=["thing"]) fun _ _ _ _ _ _ us hl=>by obtain⟨_,rfl⟩:=zgd hl;rfl
 have b6:=F6.binds (ps:=["thing", "least", "most"]) fun _ _ _ _ _ _ us hl=>by obtain⟨_,_,_,rfl⟩:=zj3 hl;rfl
 have b7:=F7.binds (ps:=["thing"]) fun _ _ _ _ _ _ us hl=>by obtain⟨_,rfl⟩:=zgd hl;rfl
 have b8:=F8.binds (ps:=["many", "thing"]) fun _ _ _ _ _ _ us hl=>by obtain⟨_,_,rfl⟩:=zdD hl;rfl
 have b9:=F9.binds (ps:=["many", "thing"]) fun _ _ _ _ _ _ us hl=>by obtain⟨_,_,rfl⟩:=zdD hl;rfl
 have b10:=F10.binds (ps:=["pieces"]) fun _ _ _ _ _ _ us hl=>by obtain⟨_,rfl⟩:=zgd hl;rfl
 have b11:=F11.binds (ps:=["many", "texts"]) fun _ _ _ _ _ _ us hl=>by obtain⟨_,_,rfl⟩:=zdD hl;rfl
 have b12:=F12.binds (ps:=["pieces", "text"]) fun _ _ _ _ _ _ us hl=>by obtain⟨_,_,rfl⟩:=zdD hl;rfl
 have b13:=F13.binds (ps:=["pieces", "text"]) fun _ _ _ _ _ _ us hl=>by obtain⟨_,_,rfl⟩:=zdD hl;rfl
 have b14:=F14.binds (ps:=["many", "pieces"]) fun _ _ _ _ _ _ us hl=>by obtain⟨_,_,rfl⟩:=zdD hl;rfl
 have b15:=F15.binds (ps:=["many", "pieces"]) fun _ _ _ _ _ _ us hl=>by obtain⟨_,_,rfl⟩:=zdD hl;rfl
 have b16:=F16.binds (ps:=["many", "thing"]) fun _ _ _ _ _ _ us hl=>by obtain⟨_,_,rfl⟩:=zdD hl;rfl
 have b17:=F17.binds (ps:=["many", "thing"]) fun _ _ _ _ _ _ us hl=>by obtain⟨_,_,rfl⟩:=zdD hl;rfl
 have b18:=F18.binds (ps:=["size"]) fun _ _ _ _ _ _ us hl=>by obtain⟨_,rfl⟩:=zgd hl;rfl
 have b19:=F19.binds (ps:=["book", "signs"]) fun _ _ _ _ _ _ us hl=>by obtain⟨_,_,rfl⟩:=zdD hl;rfl
 have b20:=F20.binds (ps:=["number", "bits"]) fun _ _ _ _ _ _ us hl=>by obtain⟨_,_,rfl⟩:=zdD hl;rfl
 have b21:=F21.binds (ps:=["book"]) fun _ _ _ _ _ _ us hl=>by obtain⟨_,rfl⟩:=zgd hl;rfl
 have b22:=F22.binds (ps:=["book", "words"]) fun _ _ _ _ _ _ us hl=>by obtain⟨_,_,rfl⟩:=zdD hl;rfl
 have b23:=F23.binds (ps:=["many", "book", "signs", "number"]) fun _ _ _ _ _ _ us hl=>by obtain⟨_,_,_,_,rfl⟩:=zlX hl;rfl
 have b24:=F24.binds (ps:=["many", "book", "signs"]) fun _ _ _ _ _ _ us hl=>by obtain⟨_,_,_,rfl⟩:=zj3 hl;rfl
 have b25:=F25.binds (ps:=["thing", "least", "most"]) fun _ _ _ _ _ _ us hl=>by obtain⟨_,_,_,rfl⟩:=zj3 hl;rfl
 have b26:=F26.binds (ps:=["sign"]) fun _ _ _ _ _ _ us hl=>by obtain⟨_,rfl⟩:=zgd hl;rfl
 have b27:=F27.binds (ps:=["signs", "place"]) fun _ _ _ _ _ _ us hl=>by obtain⟨_,_,rfl⟩:=zdD hl;rfl
 have b28:=F28.binds (ps:=["many", "book", "signs", "place"]) fun _ _ _ _ _ _ us hl=>by obtain⟨_,_,_,_,rfl⟩:=zlX hl;rfl
 have b29:=F29.binds (ps:=["many", "book"]) fun _ _ _ _ _ _ us hl=>by obtain⟨_,_,rfl⟩:=zdD hl;rfl
 have b30:=F30.binds (ps:=["book", "thing"]) fun _ _ _ _ _ _ us hl=>by obtain⟨_,_,rfl⟩:=zdD hl;rfl
 have b31:=F31.binds (ps:=["many", "book", "piece"]) fun _ _ _ _ _ _ us hl=>by obtain⟨_,_,_,rfl⟩:=zj3 hl;rfl
 have b32:=F32.binds (ps:=["many", "book", "one", "other"]) fun _ _ _ _ _ _ us hl=>by obtain⟨_,_,_,_,rfl⟩:=zlX hl;rfl
 have b33:=F33.binds (ps:=["_law_e"]) fun _ _ _ _ _ _ us hl=>by obtain⟨_,rfl⟩:=zgd hl;rfl
 have b34:=F34.binds (ps:=["_law_way", "_law_many", "_law_book_here", "_law_one", "_law_other"]) fun _ _ _ _ _ _ us hl=>by obtain⟨_,_,_,_,_,rfl⟩:=znk hl;rfl
 have b35:=F35.binds (ps:=["_law_many", "_law_book_here", "_law_signs"]) fun _ _ _ _ _ _ us hl=>by obtain⟨_,_,_,rfl⟩:=zj3 hl;rfl
 have b36:=F36.binds (ps:=["_law_script"]) fun _ _ _ _ _ _ us hl=>by obtain⟨_,rfl⟩:=zgd hl;rfl
 let t:Txt K mg:=⟨⟨_,_,F0,PySem.W.mg_of X G a0,b0⟩,⟨_,_,F1,PySem.W.mg_of X G a1,b1⟩,⟨_,_,F2,PySem.W.mg_of X G a2,b2⟩,⟨_,_,F3,PySem.W.mg_of X G a3,b3⟩,⟨_,_,F4,PySem.W.mg_of X G a4,b4⟩,⟨_,_,F5,PySem.W.mg_of X G a5,b5⟩,⟨_,_,F6,PySem.W.mg_of X G a6,b6⟩,⟨_,_,F7,PySem.W.mg_of X G a7,b7⟩,⟨_,_,F8,PySem.W.mg_of X G a8,b8⟩,⟨_,_,F9,PySem.W.mg_of X G a9,b9⟩,⟨_,_,F10,PySem.W.mg_of X G a10,b10⟩,⟨_,_,F11,PySem.W.mg_of X G a11,b11⟩,⟨_,_,F12,PySem.W.mg_of X G a12,b12⟩,⟨_,_,F13,PySem.W.mg_of X G a13,b13⟩,⟨_,_,F14,PySem.W.mg_of X G a14,b14⟩,⟨_,_,F15,PySem.W.mg_of X G a15,b15⟩,⟨_,_,F16,PySem.W.mg_of X G a16,b16⟩,⟨_,_,F17,PySem.W.mg_of X G a17,b17⟩,⟨_,_,F18,PySem.W.mg_of X G a18,b18⟩,⟨_,_,F19,PySem.W.mg_of X G a19,b19⟩,⟨_,_,F20,PySem.W.mg_of X G a20,b20⟩,⟨_,_,F21,PySem.W.mg_of X G a21,b21⟩,⟨_,_,F22,PySem.W.mg_of X G a22,b22⟩,⟨_,_,F23,PySem.W.mg_of X G a23,b23⟩,⟨_,_,F24,PySem.W.mg_of X G a24,b24⟩,⟨_,_,F25,PySem.W.mg_of X G a25,b25⟩,⟨_,_,F26,PySem.W.mg_of X G a26,b26⟩,⟨_,_,F27,PySem.W.mg_of X G a27,b27⟩,⟨_,_,F28,PySem.W.mg_of X G a28,b28⟩,⟨_,_,F29,PySem.W.mg_of X G a29,b29⟩,⟨_,_,F30,PySem.W.mg_of X G a30,b30⟩,⟨_,_,F31,PySem.W.mg_of X G a31,b31⟩,⟨_,_,F32,PySem.W.mg_of X G a32,b32⟩,⟨_,_,F33,PySem.W.mg_of X G a33,b33⟩,⟨_,_,F34,PySem.W.mg_of X G a34,b34⟩,⟨_,_,F35,PySem.W.mg_of X G a35,b35⟩,⟨_,_,F36,PySem.W.mg_of X G a36,b36⟩,vFEWEST_LETTERS,PySem.W.mg_of X G wFEWEST_LETTERS,rFEWEST_LETTERS,vLETTERS,PySem.W.mg_of X G wLETTERS,rLETTERS,vMOST_PIECES,PySem.W.mg_of X G wMOST_PIECES,rMOST_PIECES,PySem.W.mg_none_of X G zValueError,PySem.W.mg_none_of X G zall,PySem.W.mg_none_of X G zany,PySem.W.mg_none_of X G zbool,PySem.W.mg_none_of X G zdict,PySem.W.mg_none_of X G zint,PySem.W.mg_none_of X G zisinstance,PySem.W.mg_none_of X G zlen,PySem.W.mg_none_of X G zmax,PySem.W.mg_none_of X G zrange,PySem.W.mg_none_of X G zsorted,PySem.W.mg_none_of X G zstr,PySem.W.mg_none_of X G ztuple,PySem.W.mg_none_of X G zzip,⟨xa_NoBook,PySem.W.mg_of X G y_NoBook,q_NoBook⟩,⟨xa_NoPiece,PySem.W.mg_of X G y_NoPiece,q_NoPiece⟩,⟨xa_NoSize,PySem.W.mg_of X G y_NoSize,q_NoSize⟩,⟨xa_NoWord,PySem.W.mg_of X G y_NoWord,q_NoWord⟩,⟨xa_PieceError,PySem.W.mg_of X G y_PieceError,q_PieceError⟩,⟨ga_NoBook,gt_NoBook,cl_NoBook,be_NoBook,ob_NoBook,is_NoBook⟩,fs_NoBook,fk_NoBook_NoBook,fk_NoBook_NoWord,fk_NoBook_NoSize,fk_NoBook_NoPiece,fv_NoBook,⟨ga_NoPiece,gt_NoPiece,cl_NoPiece,be_NoPiece,ob_NoPiece,is_NoPiece⟩,fs_NoPiece,fk_NoPiece_NoBook,fk_NoPiece_NoWord,fk_NoPiece_NoSize,fk_NoPiece_NoPiece,fv_NoPiece,⟨ga_NoWord,gt_NoWord,cl_NoWord,be_NoWord,ob_NoWord,is_NoWord⟩,fs_NoWord,fk_NoWord_NoBook,fk_NoWord_NoWord,fk_NoWord_NoSize,fk_NoWord_NoPiece,fv_NoWord,⟨ga_NoSize,gt_NoSize,cl_NoSize,be_NoSize,ob_NoSize,is_NoSize⟩,fs_NoSize,fk_NoSize_NoBook,fk_NoSize_NoWord,fk_NoSize_NoSize,fk_NoSize_NoPiece,fv_NoSize⟩
 exact⟨_,fun s v=>.of_eq rfl,fun base _ _=>zli (zlm t) zhR⟩
theorem walk {l:PySem.W.OpenLaw}{q:Program}{loose:List Str}{XP:(Str→Option Value)→Heap→Prop}{YP:World→Heap→Prop}{d:DefRec}{K:Params→PySem.W.Frag}(hn:l.most=some 63)(hdf:d.params.defaults=[])
  (hY:∀(w:World) (h:Heap),YP w h→(K w.params).In h)
  (F:∀(w:World) (mg:Str→Option Value) (fa:Addr) (h:Heap),(K w.params).In h→h.Ns mainGlobals mg→mg d.name=some (.ref fa) →
   ∃fd:FuncData,(∀(s:Shared) (u:Value),BindsTo s fd ⟨[u],[]⟩ [("_law_script", u)])∧∀base:Heap,(K w.params).In base→base.Ns mainGlobals mg→FnOk l.prog w (K w.params) mg base CX0 12 fa fd ["_law_script"] (zcQ (K w.params))) :
  PySem.W.WalkO q loose XP YP l.row.toRowW d [] (fun f vs=>PySem.call f vs) :=
 L2.walk_of (n:=63) (k:=12) (x := "_law_script") (CX:=fun _=>CX0) (sp:=fun w=>zcQ (K w.params)) hn (by decide) hdf ⟨rfl,by decide,by decide⟩ hY F (fun _ _ a ns hl _ hS=>⟨a,ns,rfl,hS,hl,fun _=>rfl⟩) fun _ _ _ _ _ z=>z
end K42
theorem PySem.W.Fast.tw190665833520923178 : True := trivial
theorem PySem.W.Fast.tw10374525264837261875 : True := trivial
theorem PySem.W.Fast.tw4013793984749334102 : True := trivial
theorem PySem.W.Fast.tw6052397056623235783 : True := trivial
theorem PySem.W.Fast.tw6928312535363540558 : True := trivial
theorem PySem.W.Fast.tw12803940359226378453 : True := trivial
theorem PySem.W.Fast.tw10052146612779995057 : True := trivial
theorem PySem.W.Fast.tw18261694361920922372 : True := trivial
theorem PySem.W.Fast.tw16033292573103156391 : True := trivial
theorem PySem.W.Fast.tw16713524701942934581 : True := trivial
theorem PySem.W.Fast.tw997132121949105256 : True := trivial
theorem PySem.W.Fast.tw2305096349836712536 : True := trivial
theorem PySem.W.Fast.tw4479517266009250863 : True := trivial
theorem PySem.W.Fast.tw8995820600019325700 : True := trivial
open PySem PySem.W PyProof.Rows
set_option maxRecDepth 100000 in
set_option maxHeartbeats 0 in
theorem PySem.Challenge.cw_piecebooks_k42_spoilt_holds : PySem.Challenge.rw_piecebooks_k42_spoilt.Holds := by
 w_on;o_law;k_head;(case hw=>w_witness2)
 k_fill
 refine K42.walk (l:=PySem.Challenge.rw_piecebooks_k42_spoilt) rfl rfl (fun w h Y=>PySem.W.kIn_of Y) ?F
 case F =>
  intro w mg fa h KX G hmg
  refine' K42.all_mk KX G hmg ?a0 ?l0 ?c0 ?k0 ?a1 ?l1 ?c1 ?k1 ?a2 ?l2 ?c2 ?k2 ?a3 ?l3 ?c3 ?k3 ?a4 ?l4 ?c4 ?k4 ?a5 ?l5 ?c5 ?k5 ?a6 ?l6 ?c6 ?k6 ?a7 ?l7 ?c7 ?k7 ?a8 ?l8 ?c8 ?k8 ?a9 ?l9 ?c9 ?k9 ?a10 ?l10 ?c10 ?k10 ?a11 ?l11 ?c11 ?k11 ?a12 ?l12 ?c12 ?k12 ?a13 ?l13 ?c13 ?k13 ?a14 ?l14 ?c14 ?k14 ?a15 ?l15 ?c15 ?k15 ?a16 ?l16 ?c16 ?k16 ?a17 ?l17 ?c17 ?k17 ?a18 ?l18 ?c18 ?k18 ?a19 ?l19 ?c19 ?k19 ?a20 ?l20 ?c20 ?k20 ?a21 ?l21 ?c21 ?k21 ?a22 ?l22 ?c22 ?k22 ?a23 ?l23 ?c23 ?k23 ?a24 ?l24 ?c24 ?k24 ?a25 ?l25 ?c25 ?k25 ?a26 ?l26 ?c26 ?k26 ?a27 ?l27 ?c27 ?k27 ?a28 ?l28 ?c28 ?k28 ?a29 ?l29 ?c29 ?k29 ?a30 ?l30 ?c30 ?k30 ?a31 ?l31 ?c31 ?k31 ?a32 ?l32 ?c32 ?k32 ?a33 ?l33 ?c33 ?k33 ?a34 ?l34 ?c34 ?k34 ?a35 ?l35 ?c35 ?k35 ?a36 ?l36 ?c36 ?k36 ?wFEWEST_LETTERS ?rFEWEST_LETTERS ?wLETTERS ?rLETTERS ?wMOST_PIECES ?rMOST_PIECES ?zValueError ?zall ?zany ?zbool ?zdict ?zint ?zisinstance ?zlen ?zmax ?zrange ?zsorted ?zstr ?ztuple ?zzip ?y_NoBook ?q_NoBook ?y_NoPiece ?q_NoPiece ?y_NoSize ?q_NoSize ?y_NoWord ?q_NoWord ?y_PieceError ?q_PieceError ?ga_NoBook ?gt_NoBook ?cl_NoBook ?be_NoBook ?ob_NoBook ?is_NoBook ?fs_NoBook ?fk_NoBook_NoBook ?fk_NoBook_NoWord ?fk_NoBook_NoSize ?fk_NoBook_NoPiece ?fv_NoBook ?ga_NoPiece ?gt_NoPiece ?cl_NoPiece ?be_NoPiece ?ob_NoPiece ?is_NoPiece ?fs_NoPiece ?fk_NoPiece_NoBook ?fk_NoPiece_NoWord ?fk_NoPiece_NoSize ?fk_NoPiece_NoPiece ?fv_NoPiece ?ga_NoWord ?gt_NoWord ?cl_NoWord ?be_NoWord ?ob_NoWord ?is_NoWord ?fs_NoWord ?fk_NoWord_NoBook ?fk_NoWord_NoWord ?fk_NoWord_NoSize ?fk_NoWord_NoPiece ?fv_NoWord ?ga_NoSize ?gt_NoSize ?cl_NoSize ?be_NoSize ?ob_NoSize ?is_NoSize ?fs_NoSize ?fk_NoSize_NoBook ?fk_NoSize_NoWord ?fk_NoSize_NoSize ?fk_NoSize_NoPiece ?fv_NoSize
  (case a0=>k_is)
  (case l0=>k_is)
  (case c0=>k_is)
  (case k0=>k_is)
  (case a1=>k_is)
  (case l1=>k_is)
  (case c1=>k_is)
  (case k1=>k_is)
  (case a2=>k_is)
  (case l2=>k_is)
  (case c2=>k_is)
  (case k2=>k_is)
  (case a3=>k_is)
  (case l3=>k_is)
  (case c3=>k_is)
  (case k3=>k_is)
  (case a4=>k_is)
  (case l4=>k_is)
  (case c4=>k_is)
  (case k4=>k_is)
  (case a5=>k_is)
  (case l5=>k_is)
  (case c5=>k_is)
  (case k5=>k_is)
  (case a6=>k_is)
  (case l6=>k_is)
  (case c6=>k_is)
  (case k6=>k_is)
  (case a7=>k_is)
  (case l7=>k_is)
  (case c7=>k_is)
  (case k7=>k_is)
  (case a8=>k_is)
  (case l8=>k_is)
  (case c8=>k_is)
  (case k8=>k_is)
  (case a9=>k_is)
  (case l9=>k_is)
  (case c9=>k_is)
  (case k9=>k_is)
  (case a10=>k_is)
  (case l10=>k_is)
  (case c10=>k_is)
  (case k10=>k_is)
  (case a11=>k_is)
  (case l11=>k_is)
  (case c11=>k_is)
  (case k11=>k_is)
  (case a12=>k_is)
  (case l12=>k_is)
  (case c12=>k_is)
  (case k12=>k_is)
  (case a13=>k_is)
  (case l13=>k_is)
  (case c13=>k_is)
  (case k13=>k_is)
  (case a14=>k_is)
  (case l14=>k_is)
  (case c14=>k_is)
  (case k14=>k_is)
  (case a15=>k_is)
  (case l15=>k_is)
  (case c15=>k_is)
  (case k15=>k_is)
  (case a16=>k_is)
  (case l16=>k_is)
  (case c16=>k_is)
  (case k16=>k_is)
  (case a17=>k_is)
  (case l17=>k_is)
  (case c17=>k_is)
  (case k17=>k_is)
  (case a18=>k_is)
  (case l18=>k_is)
  (case c18=>k_is)
  (case k18=>k_is)
  (case a19=>k_is)
  (case l19=>k_is)
  (case c19=>k_is)
  (case k19=>k_is)
  (case a20=>k_is)
  (case l20=>k_is)
  (case c20=>k_is)
  (case k20=>k_is)
  (case a21=>k_is)
  (case l21=>k_is)
  (case c21=>k_is)
  (case k21=>k_is)
  (case a22=>k_is)
  (case l22=>k_is)
  (case c22=>k_is)
  (case k22=>k_is)
  (case a23=>k_is)
  (case l23=>k_is)
  (case c23=>k_is)
  (case k23=>k_is)
  (case a24=>k_is)
  (case l24=>k_is)
  (case c24=>k_is)
  (case k24=>k_is)
  (case a25=>k_is)
  (case l25=>k_is)
  (case c25=>k_is)
  (case k25=>k_is)
  (case a26=>k_is)
  (case l26=>k_is)
  (case c26=>k_is)
  (case k26=>k_is)
  (case a27=>k_is)
  (case l27=>k_is)
  (case c27=>k_is)
  (case k27=>k_is)
  (case a28=>k_is)
  (case l28=>k_is)
  (case c28=>k_is)
  (case k28=>k_is)
  (case a29=>k_is)
  (case l29=>k_is)
  (case c29=>k_is)
  (case k29=>k_is)
  (case a30=>k_is)
  (case l30=>k_is)
  (case c30=>k_is)
  (case k30=>k_is)
  (case a31=>k_is)
  (case l31=>k_is)
  (case c31=>k_is)
  (case k31=>k_is)
  (case a32=>k_is)
  (case l32=>k_is)
  (case c32=>k_is)
  (case k32=>k_is)
  (case a33=>k_is)
  (case l33=>k_is)
  (case c33=>k_is)
  (case k33=>k_is)
  (case a34=>k_is)
  (case l34=>k_is)
  (case c34=>k_is)
  (case k34=>k_is)
  (case a35=>k_is)
  (case l35=>k_is)
  (case c35=>k_is)
  (case k35=>k_is)
  (case a36=>k_is)
  (case l36=>k_is)
  (case c36=>k_is)
  (case k36=>k_is)
  (case wFEWEST_LETTERS=>k_is)
  (case rFEWEST_LETTERS=>exact⟨_,rfl⟩)
  (case wLETTERS=>k_is)
  (case rLETTERS=>exact⟨_,rfl⟩)
  (case wMOST_PIECES=>k_is)
  (case rMOST_PIECES=>exact⟨_,rfl⟩)
  (case zValueError=>k_is)
  (case zall=>k_is)
  (case zany=>k_is)
  (case zbool=>k_is)
  (case zdict=>k_is)
  (case zint=>k_is)
  (case zisinstance=>k_is)
  (case zlen=>k_is)
  (case zmax=>k_is)
  (case zrange=>k_is)
  (case zsorted=>k_is)
  (case zstr=>k_is)
  (case ztuple=>k_is)
  (case zzip=>k_is)
  (case y_NoBook=>k_is)
  (case q_NoBook=>k_exc)
  (case y_NoPiece=>k_is)
  (case q_NoPiece=>k_exc)
  (case y_NoSize=>k_is)
  (case q_NoSize=>k_exc)
  (case y_NoWord=>k_is)
  (case q_NoWord=>k_exc)
  (case y_PieceError=>k_is)
  (case q_PieceError=>k_exc)
  (case ga_NoBook=>k_is)
  (case gt_NoBook=>k_is)
  (case cl_NoBook=>k_is)
  (case be_NoBook=>k_is)
  (case ob_NoBook=>k_is)
  (case is_NoBook=>k_is)
  (case fs_NoBook=>k_is)
  (case fk_NoBook_NoBook=>kit_is)
  (case fk_NoBook_NoWord=>kit_is)
  (case fk_NoBook_NoSize=>kit_is)
  (case fk_NoBook_NoPiece=>kit_is)
  (case fv_NoBook=>kit_is)
  (case ga_NoPiece=>k_is)
  (case gt_NoPiece=>k_is)
  (case cl_NoPiece=>k_is)
  (case be_NoPiece=>k_is)
  (case ob_NoPiece=>k_is)
  (case is_NoPiece=>k_is)
  (case fs_NoPiece=>k_is)
  (case fk_NoPiece_NoBook=>kit_is)
  (case fk_NoPiece_NoWord=>kit_is)
  (case fk_NoPiece_NoSize=>kit_is)
  (case fk_NoPiece_NoPiece=>kit_is)
  (case fv_NoPiece=>kit_is)
  (case ga_NoWord=>k_is)
  (case gt_NoWord=>k_is)
  (case cl_NoWord=>k_is)
  (case be_NoWord=>k_is)
  (case ob_NoWord=>k_is)
  (case is_NoWord=>k_is)
  (case fs_NoWord=>k_is)
  (case fk_NoWord_NoBook=>kit_is)
  (case fk_NoWord_NoWord=>kit_is)
  (case fk_NoWord_NoSize=>kit_is)
  (case fk_NoWord_NoPiece=>kit_is)
  (case fv_NoWord=>kit_is)
  (case ga_NoSize=>k_is)
  (case gt_NoSize=>k_is)
  (case cl_NoSize=>k_is)
  (case be_NoSize=>k_is)
  (case ob_NoSize=>k_is)
  (case is_NoSize=>k_is)
  (case fs_NoSize=>k_is)
  (case fk_NoSize_NoBook=>kit_is)
  (case fk_NoSize_NoWord=>kit_is)
  (case fk_NoSize_NoSize=>kit_is)
  (case fk_NoSize_NoPiece=>kit_is)
  (case fv_NoSize=>kit_is)
#print axioms PySem.Challenge.cw_piecebooks_k42_spoilt_holds
