import PyProof.Rows.All
import Wide.All
import OpenK.AllK
import Wide.FinOn
import Lean
import PyProof.EqAt
import PyProof.EqKinds
import PyProof.TupleCall
import PyProof.ReprRoads
import PyProof.FitsInt
import PyProof.FitsBits
import PyProof.Rows.IntMath
import PyProof.ConsumeWalk
import PyProof.WalkInts
import PyProof.ListRange
import PyProof.ZipIter
import PyProof.Draws
import PyProof.EnumMake
import PyProof.TupleIter
import PyProof.P3Eq
import PyProof.StrCalls2
import PyProof.StrCalls3
import PyProof.FString
import PyProof.AttrMissHeap
import PyProof.DictUpdate
import PyProof.DictRoads
import KE.KDictOf
import PyProof.Walks
import PySem.Challenge.RW_fewfills_k37_answers_ways_mixes
set_option Elab.async false
set_option linter.all false
set_option maxRecDepth 100000
namespace L2
open PySem PySem.Spec PyProof.Rows
abbrev Key:=Sum Int Str
def keyIs:Key→Value→Bool
 | .inl k,v=>Value.isInt k v
 | .inr x,v=>Value.isStrOf x v
def keyH (w:World):Key→Int
 | .inl k=>hashInt k
 | .inr x=>hashStr w x
theorem bC:∀{k:Key} {v:Value},keyIs k v=true→(∃i t,k=Sum.inl i∧v=Value.int i t)∨(∃x t,k=Sum.inr x∧v=Value.str x t)
 | .inl i,v,h=>by
  obtain ⟨t,e⟩:=Value.isInt_shape (k:=i) (v:=v) h
  exact .inl ⟨i,t,rfl,e⟩
 | .inr x,v,h=>by
  obtain ⟨t,e⟩:=Value.isStrOf_shape (x:=x) (v:=v) h
  exact .inr ⟨x,t,rfl,e⟩
theorem key_ll (a b:Int):decide ((Sum.inl a:Key)=Sum.inl b)=(a == b):=by
 by_cases e:a=b
 ·subst e;simp
 ·have h:¬(Sum.inl a:Key)=Sum.inl b:=fun q=>e (Sum.inl.inj q)
  rw[decide_eq_false h]
  exact (beq_eq_false_iff_ne.mpr e).symm
theorem key_rr (a b:Str):decide ((Sum.inr a:Key)=Sum.inr b)=decide (a=b):=by
 by_cases e:a=b
 ·subst e;simp
 ·have h:¬(Sum.inr a:Key)=Sum.inr b:=fun q=>e (Sum.inr.inj q)
  rw[decide_eq_false h,decide_eq_false e]
theorem key_lr (a:Int) (b:Str):decide ((Sum.inl a:Key)=Sum.inr b)=false:=decide_eq_false (fun q=>nomatch q)
theorem key_rl (a:Str) (b:Int):decide ((Sum.inr a:Key)=Sum.inl b)=false:=decide_eq_false (fun q=>nomatch q)
def mT (prog:Program) (w:World):PySem.KeyKind prog w Key where
 is:=keyIs
 hash:=keyH w
 inj:=fun v a b ha hb=>by
  rcases bC ha with ⟨i,t,rfl,rfl⟩|⟨x,t,rfl,rfl⟩
  ·rcases bC hb with ⟨j,u,rfl,e⟩|⟨y,u,rfl,e⟩
   ·injection e with e1 _;rw[e1]
   ·exact nomatch e
  ·rcases bC hb with ⟨j,u,rfl,e⟩|⟨y,u,rfl,e⟩
   ·exact nomatch e
   ·injection e with e1 _;rw[e1]
 byValue:=fun k v h=>by
  rcases bC h with ⟨i,t,rfl,rfl⟩|⟨x,t,rfl,rfl⟩ <;> rfl
 pyHash:=fun hv h=>by
  rcases bC hv with ⟨i,t,rfl,rfl⟩|⟨x,t,rfl,rfl⟩
  ·exact wpAny_pyHash_int h
  ·exact wpAny_pyHash_str h
 eqBool:=fun hu hv h=>by
  rcases bC hu with ⟨i,t,rfl,rfl⟩|⟨x,t,rfl,rfl⟩
  ·rcases bC hv with ⟨j,u,rfl,rfl⟩|⟨y,u,rfl,rfl⟩
   ·rw[key_ll] at h;exact wpAny_eqBool_int h
   ·rw[key_lr] at h;exact SeqAt.EqAt.int_str i t y u _ _ _ _ h
  ·rcases bC hv with ⟨j,u,rfl,rfl⟩|⟨y,u,rfl,rfl⟩
   ·rw[key_rl] at h;exact SeqAt.EqAt.str_int x t j u _ _ _ _ h
   ·rw[key_rr] at h;exact wpAny_eqBool_str h
 «strs»:=fun k x t v h=>by
  rcases bC h with ⟨i,u,rfl,e⟩|⟨y,u,rfl,e⟩
  ·exact nomatch e
  ·injection e with e1 _
   subst e1
   cases v <;> rfl
inductive V where
 | non | bl (b:Bool) | int (i:Int) | str (x:Str) | byt (b:Array UInt8) | flt (b:UInt64) | ref (a:Addr) | ty (n:String)
 deriving DecidableEq
def RelV:V→Value→Prop
 | .non,u=>u=Value.none
 | .bl b,u=>u=Value.bool b
 | .int i,u=>∃t,u=Value.int i t
 | .str x,u=>∃t,u=Value.str x t
 | .byt b,u=>∃t,u=Value.bytes b t
 | .flt b,u=>∃t,u=Value.float b t
 | .ref a,u=>u=Value.ref a
 | .ty n,u=>u=Value.type n
abbrev Vals:List V→List Value→Prop:=Paired RelV
theorem Vals.length {xs:List V} {us:List Value} (r:Vals xs us):xs.length=us.length:=Paired.length r
theorem Vals.get:∀{xs:List V} {us:List Value} {i:Nat} {x:V},Vals xs us→xs[i]?=some x→∃u,us[i]?=some u∧RelV x u
 | _,_,_,_,.nil,e=>by simp at e
 | _,_,0,_,.cons r _,e=>by simp at e;subst e;exact ⟨_,rfl,r⟩
 | _,_,i+1,x,.cons _ t,e=>by
  obtain ⟨u,h1,h2⟩:=Vals.get (i:=i) (x:=x) t (by simpa using e)
  exact ⟨u,by simpa using h1,h2⟩
theorem Vals.set {x:V} {u:Value} (r:RelV x u):∀{xs:List V} {us:List Value} (i:Nat),Vals xs us→Vals (xs.set i x) (us.set i u)
 | _,_,_,.nil=>.nil
 | _,_,0,.cons _ t=>.cons r t
 | _,_,i+1,.cons q t=>.cons q (Vals.set r i t)
theorem Vals.append:∀{xs ys:List V} {us ws:List Value},Vals xs us→Vals ys ws→Vals (xs++ys) (us++ws)
 | _,_,_,_,.nil,s=>s
 | _,_,_,_,.cons r t,s=>.cons r (Vals.append t s)
theorem Vals.take:∀{xs:List V} {us:List Value} (n:Nat),Vals xs us→Vals (xs.take n) (us.take n)
 | _,_,0,_=>.nil
 | _,_,_+1,.nil=>.nil
 | _,_,n+1,.cons r t=>.cons r (Vals.take n t)
theorem Vals.drop:∀{xs:List V} {us:List Value} (n:Nat),Vals xs us→Vals (xs.drop n) (us.drop n)
 | _,_,0,r=>r
 | _,_,_+1,.nil=>.nil
 | _,_,n+1,.cons _ t=>Vals.drop n t
def RelO:Option V→Option Value→Prop
 | some v,some u=>RelV v u
 | none,none=>True
 | _,_=>False
def KV {κ:Type}:List (κ × V)→List (κ × Value)→Prop:=Paired fun (p:κ × V) (q:κ × Value)=>p.1=q.1∧RelV p.2 q.2
def kV:Key→V
 | .inl i=>.int i
 | .inr x=>.str x
inductive HO where
 | lst (xs:List V)
 | tup (xs:List V)
 | dK (kvs:List (Key × V)) | dT (kvs:List (List Key × V))
 | set (S:Int→Bool) (n:Nat)
 | ins (C dx:Addr) (fs:List (Str × V))
 | own (x:Addr)
 | xd (fs:List (Str × V))
 | met (f x:Addr)
 | rng (lo hi:Int)
 | frz (o:Obj) (u:HO)
 | tbl (ps:Array Value)
 | ext (φ:Heap→Prop)
abbrev Hp:=Addr→Option HO
def upd (H:Hp) (a:Addr) (o:HO):Hp:=fun b=>if b=a then some o else H b
theorem cc {H:Hp} {a:Addr} {o:HO}:upd H a o a=some o:=by unfold upd;rw[if_pos rfl]
theorem aV {H:Hp} {a b:Addr} {o:HO} (h:b≠a):upd H a o b=H b:=by unfold upd;rw[if_neg h]
theorem bu {H:Hp} {a b:Addr} {o:HO} (h:H a=some o) (h':H b=none):a≠b:=by
 intro e;subst e;rw[h] at h';cases h'
def TupN (h:Heap) (a:Addr) (its:Array Value):Prop:=∃o,h.get? a=some o∧o.cls=.type "tuple"∧(∃n,o.data=.seq its n)∧o.dict=none
theorem TupN.tup {h:Heap} {a:Addr} {its:Array Value} (t:TupN h a its):IsTup h a its:=let ⟨o,e,c,d,_⟩:=t;⟨o,e,c,d⟩
theorem TupN.lt {h:Heap} {a:Addr} {its:Array Value} (t:TupN h a its):a<h.objs.size:=t.tup.lt
theorem TupN.new (h:Heap) (its:Array Value):TupN (h.push { cls:=.type "tuple",data:=.seq its}) h.objs.size its:=⟨_,Heap.get?_push_size h rfl,rfl,⟨_,rfl⟩,rfl⟩
section
variable (P:Program) (w:World)
def ObjOk (H:Hp) (h:Heap) (a:Addr):HO→Prop
 | .lst xs=>xs.length≤sizeLine∧∃(its:List Value) (n:Nat),Vals xs its∧h.get? a=some { cls:=.type "list",data:=.seq its.toArray n}
 | .tup xs=>xs.length≤sizeLine∧∃its:List Value,Vals xs its∧TupN h a its.toArray
 | .dK kvs=>kvs.length≤sizeLine∧(a == sysModules)=false∧∃vs,KV kvs vs∧h.DictOf (mT P w) a vs
 | .dT kvs=>kvs.length≤sizeLine∧(a == sysModules)=false∧∃xs:List (List Key × Addr × Value),
   Paired (fun (p:List Key × V) (q:List Key × Addr × Value)=>p.1=q.1∧H q.2.1=some (.tup (p.1.map kV))∧RelV p.2 q.2.2) kvs xs ∧
   ∃o es ep,h.get? a=some o∧o.ExactDict∧o.data=.dict es ep∧es.toList=xs.map (entryOfKey (tupleKind (mT P w)))∧(xs.map (·.1)).Nodup
 | .set S n=>h.SetOf (intKind P w) a S n
 | .ins C dx fs=>H dx=some (.own a)∧fs.length≤1000∧dx≠a∧h.get? a=some (PySem.W.instObj C dx) ∧
   ∃mA,h.Ns1 dx mA∧(∀f,RelO (fs.lookup f) (mA f))∧PySem.Within mA (fs.map (·.1))
 | .own _=>∃o,h.get? a=some o
 | .xd fs=>∃mA,h.Ns1 a mA∧∀f,RelO (fs.lookup f) (mA f)
 | .rng lo hi=>∃t u v,h.get? a=some { cls:=.type "range",data:=.fields #[.int lo t,.int hi u,.int 1 v]}
 | .frz o u=>h.get? a=some o∧ObjOk H h a u
 | .tbl ps=>h.get? a=some { cls:=.none,data:=.fields ps}
 | .met f x=>h.get? a=some (PySem.W.methodObj (.ref f) (.ref x))
 | .ext φ=>φ h∧(∃o,h.get? a=some o)∧∀h1 h2:Heap,φ h1→(∀o,h1.get? a=some o→h2.get? a=some o)→φ h2
def HOk (H:Hp) (h:Heap):Prop:=∀a o,H a=some o→ObjOk P w H h a o
end
section
variable {P:Program} {w:World} {H H':Hp} {h h':Heap} {a:Addr} {o:HO}
theorem ObjOk.lt (x:ObjOk P w H h a o):a<h.objs.size:=by
 cases o with
 | lst xs=>obtain ⟨_,_,_,_,e⟩:=x;exact Heap.lt_size e
 | tup xs=>obtain ⟨_,_,_,p⟩:=x;exact p.lt
 | dK kvs=>obtain ⟨_,_,_,_,o,_,_,e,_⟩:=x;exact Heap.lt_size e
 | dT kvs=>obtain ⟨_,_,_,_,o,_,_,e,_⟩:=x;exact Heap.lt_size e
 | set S n=>obtain ⟨o,_,_,_,e,_⟩:=x;exact Heap.lt_size e
 | ins C dx fs=>obtain ⟨_,_,_,e,_⟩:=x;exact Heap.lt_size e
 | own y=>obtain ⟨_,e⟩:=x;exact Heap.lt_size e
 | xd fs=>obtain ⟨_,⟨_,_,_,e,_⟩,_⟩:=x;exact Heap.lt_size e
 | rng lo hi=>obtain ⟨_,_,_,e⟩:=x;exact Heap.lt_size e
 | frz ob u=>obtain ⟨e,_⟩:=x;exact Heap.lt_size e
 | tbl ps=>exact Heap.lt_size (show h.get? a=some _ from x)
 | met f y=>exact Heap.lt_size (show h.get? a=some _ from x)
 | ext φ=>obtain ⟨_,⟨_,e⟩,_⟩:=x;exact Heap.lt_size e
theorem Paired.mapP {α β:Type} {F G:α→β→Prop}:∀{l₁:List α} {l₂:List β},Paired F l₁ l₂→(∀a b,F a b→G a b)→Paired G l₁ l₂
 | _,_,.nil,_=>.nil
 | _,_,.cons r t,f=>.cons (f _ _ r) (Paired.mapP t f)
theorem ObjOk.stay (x:ObjOk P w H h a o) (k:∀b u,(b=a∨H b=some (.own a))→h.get? b=some u→h'.get? b=some u)
  (ho:∀b,H b=some (.own a)→H' b=some (.own a)) (ht:∀b xs,H b=some (.tup xs)→H' b=some (.tup xs)):ObjOk P w H' h' a o:=by
 induction o with
 | lst xs=>obtain ⟨z,its,n,r,e⟩:=x;exact ⟨z,its,n,r,k _ _ (.inl rfl) e⟩
 | tup xs=>obtain ⟨z,its,r,ob,e,c⟩:=x;exact ⟨z,its,r,ob,k _ _ (.inl rfl) e,c⟩
 | dK kvs=>obtain ⟨z,y,vs,r,ob,es,ep,e,c⟩:=x;exact ⟨z,y,vs,r,ob,es,ep,k _ _ (.inl rfl) e,c⟩
 | dT kvs =>
  obtain ⟨z,y,xs,r,ob,es,ep,e,c⟩:=x
  exact ⟨z,y,xs,Paired.mapP r fun p q z=>⟨z.1,ht _ _ z.2.1,z.2.2⟩,ob,es,ep,k _ _ (.inl rfl) e,c⟩
 | set S n=>obtain ⟨ob,es,ep,t,e,c⟩:=x;exact ⟨ob,es,ep,t,k _ _ (.inl rfl) e,c⟩
 | ins C dx fs =>
  obtain ⟨d,z,ne,e,mA,⟨od,es,ep,e2,c⟩,r⟩:=x
  exact ⟨ho _ d,z,ne,k _ _ (.inl rfl) e,mA,⟨od,es,ep,k _ _ (.inr d) e2,c⟩,r⟩
 | own y=>obtain ⟨ob,e⟩:=x;exact ⟨ob,k _ _ (.inl rfl) e⟩
 | xd fs=>obtain ⟨mA,⟨od,es,ep,e,c⟩,r⟩:=x;exact ⟨mA,⟨od,es,ep,k _ _ (.inl rfl) e,c⟩,r⟩
 | rng lo hi=>obtain ⟨t,u,v,e⟩:=x;exact ⟨t,u,v,k _ _ (.inl rfl) e⟩
 | frz ob u ih=>obtain ⟨e,q⟩:=x;exact ⟨k _ _ (.inl rfl) e,ih q⟩
 | tbl ps =>
  have e:h.get? a=some { cls:=.none,data:=.fields ps}:=x
  show h'.get? a=some { cls:=.none,data:=.fields ps}
  exact k a _ (.inl rfl) e
 | met f y =>
  have e:h.get? a=some (PySem.W.methodObj (.ref f) (.ref y)):=x
  show h'.get? a=some (PySem.W.methodObj (.ref f) (.ref y))
  exact k a _ (.inl rfl) e
 | ext φ=>obtain ⟨p,⟨o,e⟩,st⟩:=x;exact ⟨st _ _ p fun o q=>k _ _ (.inl rfl) q,⟨o,k _ _ (.inl rfl) e⟩,st⟩
theorem HOk.lt (x:HOk P w H h) (e:H a=some o):a<h.objs.size:=(x a o e).lt
theorem HOk.fresh (x:HOk P w H h) (e:h.objs.size≤a):H a=none:=by
 cases q:H a with
 | none=>rfl
 | some u=>exact absurd (Nat.lt_of_lt_of_le (x.lt q) e) (Nat.lt_irrefl _)
theorem HOk.kept (x:HOk P w H h) (k:∀b u,h.get? b=some u→h'.get? b=some u):HOk P w H h':=fun a o e =>
 (x a o e).stay (fun b u _ q=>k b u q) (fun _ q=>q) fun _ _ q=>q
theorem HOk.laid (x:HOk P w H h) (k:∀b u,h.get? b=some u→h'.get? b=some u) (hp:h.objs.size≤a) (new:ObjOk P w (upd H a o) h' a o):HOk P w (upd H a o) h':=fun b u e=>by
 have hn:=x.fresh hp
 by_cases hb:b=a
 ·subst hb;rw[cc] at e;cases e;exact new
 ·rw[aV hb] at e
  exact (x b u e).stay (fun c v _ q=>k c v q) (fun c q=>by rw[aV (bu q hn)];exact q) fun c xs q=>by rw[aV (bu q hn)];exact q
end
def Rd (H:Hp) (a:Addr) (u:HO):Prop:=H a=some u∨∃o,H a=some (.frz o u)
theorem Rd.ok {P:Program} {w:World} {H:Hp} {h:Heap} {a:Addr} {u:HO} (r:Rd H a u) (x:HOk P w H h):ObjOk P w H h a u:=by
 rcases r with r|⟨o,r⟩
 ·exact x a u r
 ·obtain ⟨_,q⟩:=x a _ r
  exact q
def Mut:Option HO→Prop
 | some (.lst _)=>True
 | some (.dK _)=>True
 | some (.dT _)=>True
 | some (.set _ _)=>True
 | some (.ins _ _ _)=>True
 | some (.ext _)=>True
 | _=>False
section
variable {P:Program} {w:World} {H:Hp} {h h':Heap} {x e:Addr} {o':HO}
theorem HOk.write (ok:HOk P w H h) (mu:Mut (H x)) (he:e=x∨H e=some (.own x)) (k:∀b u,b≠e→h.get? b=some u→h'.get? b=some u) (heo:∃u,h'.get? e=some u)
  (new:ObjOk P w (upd H x o') h' x o'):HOk P w (upd H x o') h':=fun b u q=>by
 have nown:∀c y,H c=some (.own y)→c≠x:=fun c y r z=>by subst z;rw[r] at mu;exact mu
 have ntup:∀c xs,H c=some (.tup xs)→c≠x:=fun c xs r z=>by subst z;rw[r] at mu;exact mu
 by_cases hb:b=x
 ·subst hb;rw[cc] at q;cases q;exact new
 ·rw[aV hb] at q
  by_cases hbe:b=e
  ·have q':H b=some (.own x):=by
    rcases he with z|z
    ·exact absurd (hbe.trans z) hb
    ·rw[hbe];exact z
   rw[q] at q';cases q'
   obtain ⟨v,hv⟩:=heo
   exact ⟨v,by rw[hbe];exact hv⟩
  ·refine (ok b u q).stay (fun c v hc r=>k c v ?_ r) (fun c r=>by rw[aV (nown c b r)];exact r) fun c xs r=>by rw[aV (ntup c xs r)];exact r
   rcases hc with rfl|hc
   ·exact hbe
   ·rintro rfl
    rcases he with z|z
    ·exact nown c b hc z
    ·rw[hc] at z;cases z;exact hb rfl
end
structure Un (fs ex:List Addr) (H H':Hp) (h h':Heap):Prop where
 keep:∀b o,h.get? b=some o→H b=none→b∉fs→b∉ex→h'.get? b=some o
 slot:∀b o,h.get? b=some o→H b=none→b∈fs→b∉ex→∃sl,h'.get? b=some { o with slots:=sl}
 free:∀b o,h.get? b=some o→H b=none→b∉ex→H' b=none
 there:∀b o,h.get? b=some o→b∉ex→∃o',h'.get? b=some o'
 tups:∀b xs,H b=some (.tup xs)→H' b=some (.tup xs)
 frzs:∀b o u,H b=some (.frz o u)→H' b=some (.frz o u)
 tbls:∀b ps,H b=some (.tbl ps)→∃more,H' b=some (.tbl (ps++more))
section
variable {fs fs' ex ex':List Addr} {H H1 H2:Hp} {h h1 h2 h':Heap} {a x e:Addr} {o:HO}
theorem Un.any (u:Un fs ex H H1 h h1) {b:Addr} {ob:Obj} (q:h.get? b=some ob) (n:H b=none) (hx:b∉ex):∃sl,h1.get? b=some { ob with slots:=sl}:=by
 by_cases hb:b∈fs
 ·exact u.slot b ob q n hb hx
 ·exact ⟨ob.slots,u.keep b ob q n hb hx⟩
theorem Un.kept (k:∀b u,h.get? b=some u→h'.get? b=some u):Un fs ex H H h h' :=
 ⟨fun b ob q _ _ _=>k b ob q,fun b ob q _ _ _=>⟨ob.slots,k b ob q⟩,fun _ _ _ n _=>n,fun b ob q _=>⟨ob,k b ob q⟩,fun _ _ q=>q,fun _ _ _ q=>q,fun _ ps q=>⟨#[],by rw[q];simp⟩⟩
theorem Un.refl:Un fs ex H H h h:=Un.kept fun _ _ q=>q
theorem Un.laid (k:∀b u,h.get? b=some u→h'.get? b=some u) (hp:h.objs.size≤a) (hn:H a=none):Un fs ex H (upd H a o) h h' where
 keep:=fun b u q _ _ _=>k b u q
 slot:=fun b u q _ _ _=>⟨u.slots,k b u q⟩
 free:=fun b u q n _=>by rw[aV (Nat.ne_of_lt (Nat.lt_of_lt_of_le (Heap.lt_size q) hp))];exact n
 there:=fun b u q _=>⟨u,k b u q⟩
 tups:=fun b xs q=>by rw[aV (bu q hn)];exact q
 frzs:=fun b u xs q=>by rw[aV (bu q hn)];exact q
 tbls:=fun b ps q=>⟨#[],by rw[aV (bu q hn),q];simp⟩
theorem Un.write (mu:Mut (H x)) (he:e=x∨H e=some (.own x)) (k:∀b u,b≠e→h.get? b=some u→h'.get? b=some u) (heo:∃u,h'.get? e=some u):Un fs ex H (upd H x o) h h':=by
 have hx:∀b,H b=none→b≠x:=fun b n z=>by subst z;rw[n] at mu;exact mu
 have hb:∀b,H b=none→b≠e:=fun b n z=>by
  subst z
  rcases he with r|r
  ·exact hx b n r
  ·rw[n] at r;cases r
 have hm:∀b u,H b=some u→¬Mut (some u)→b≠x:=fun b u q nm z=>by subst z;rw[q] at mu;exact nm mu
 refine ⟨fun b u q n _ _=>k b u (hb b n) q,fun b u q n _ _=>⟨u.slots,k b u (hb b n) q⟩,fun b u q n _=>by rw[aV (hx b n)];exact n,fun b u q _=>?_,
  fun b xs q=>by rw[aV (hm b _ q fun z=>z)];exact q,fun b u xs q=>by rw[aV (hm b _ q fun z=>z)];exact q,fun b ps q=>⟨#[],by rw[aV (hm b _ q fun z=>z),q];simp⟩⟩
 by_cases hbe:b=e
 ·subst hbe;exact heo
 ·exact ⟨u,k b u hbe q⟩
end
def trk (h:Heap) (H:Hp):List Addr:=(List.range h.objs.size).filter fun a=>(H a).isSome
def hidT (h:Heap) (H:Hp):Heap:=PySem.W.hideAll h (trk h H)
theorem o9 (h:Heap) (H:Hp):(hidT h H).objs.size=h.objs.size:=PySem.W.hideAll_size _ _
theorem qy {h:Heap} {H:Hp} {b:Addr} {o:Obj} (e:h.get? b=some o) (n:H b=none):(hidT h H).get? b=some o :=
 PySem.W.hideAll_get _ e fun hm=>by
  have q:(H b).isSome=true:=(List.mem_filter.mp hm).2
  rw[n] at q;simp at q
theorem of_hidT {h:Heap} {H:Hp} {b:Addr} {o:Obj} (e:(hidT h H).get? b=some o):h.get? b=some o∧H b=none:=by
 have e':h.get? b=some o:=PySem.W.of_hideAll (trk h H) e
 refine ⟨e',?_⟩
 cases q:H b with
 | none=>rfl
 | some x =>
  have hm:b∈trk h H:=List.mem_filter.mpr ⟨List.mem_range.mpr (Heap.lt_size e'),by simp[q]⟩
  have z:(hidT h H).get? b=none:=PySem.W.hideAll_none (trk h H) hm
  rw[z] at e;cases e
structure Mod (K:PySem.W.Frag) (mg:Str→Option Value) (base:Heap):Prop where
 kin:K.In base
 glob:base.Ns mainGlobals mg
 blt:∃mb,base.Ns builtinsNs mb∧∀x:Str,x≠"__name__"→mb x=bootBuiltins x
 nolimit:base.NoLimit
structure Cx where
 prog:Program
 w:World
 K:PySem.W.Frag
 mg:Str→Option Value
 base:Heap
 A:Around
 N:List Str
 s₀:Shared
 H₀:Hp
 env:Env
 outer:List Env
 stack:List Env
 ex:List Addr
 fn:Str→Bool
 calm:Bool
 pn:List (Addr × Obj)
 xe:Value→Shared→Prop
def frs (l:List Env):List Addr:=l.filterMap (·.frame)
abbrev Cx.fs (X:Cx):List Addr:=frs X.outer
def Vis (sc:Scope) (x:Str):Prop:=sc.names.lookup x=some .local∨sc.names.lookup x=some .cell∨sc.names.lookup x=some .free
def Loc (sc:Scope) (x:Str):Prop:=sc.names.lookup x=some .local∨sc.names.lookup x=some .cell
def Look (env:Env) (h:Heap) (m:Str→Option Value) (x:Str) (u:Value):Prop :=
 (env.kindOf x=some .local∧m x=some u)∨((env.kindOf x=some .cell∨env.kindOf x=some .free)∧∃c,env.cells.lookup x=some c∧h.IsCell c (some u))
structure Cx.Ok (X:Cx):Prop where
 mod:Mod X.K X.mg X.base
 kind:X.env.scope.kind=.function
 glob:X.env.globals=mainGlobals
 blt:X.env.builtins=builtinsNs
 above:X.s₀.heap.objs.size≤X.env.locals
 inj:∀x y c,X.env.cells.lookup x=some c→X.env.cells.lookup y=some c→x=y
 has:∀x,(X.env.kindOf x=some .cell∨X.env.kindOf x=some .free)→∃c,X.env.cells.lookup x=some c
 cab:∀x c,X.fn x=true→X.env.cells.lookup x=some c→X.s₀.heap.objs.size≤c
 hd:X.calm=true→X.A.handled=none
 frames:X.A.frames=some X.stack
 stk:X.stack=X.outer∨(X.stack=X.env::X.outer∧X.env.frame=some X.env.locals)
 exf:∀b∈X.ex,b≠X.env.locals∧∀x c,X.env.cells.lookup x=some c→c≠b
 bs:∀b o,X.base.get? b=some o→X.s₀.heap.get? b=some o∧X.H₀ b=none
 bsz:X.base.objs.size≤X.s₀.heap.objs.size
 noex:∀b o,X.base.get? b=some o→b∉X.ex
 exfs:∀b∈X.ex,b∉X.fs
 funs:X.s₀.heap.FunFrames X.base X.outer
 frf:∀b∈X.fs,X.H₀ b=none
structure Inv (X:Cx) (pins:List (Addr × Obj)) (σ:List (Option V)) (H:Hp) (s:Shared):Prop where
 ok:X.Ok
 os:s.os=X.s₀.os
 bare:AllBare s.gens
 base:Un X.fs X.ex X.H₀ H X.s₀.heap s.heap
 loc:∃m,s.heap.Ns X.env.locals m∧∀(i:Nat) (x:Str) (v:V),X.N[i]?=some x→σ[i]?=some (some v)→Vis X.env.scope x→∃u,RelV v u∧Look X.env s.heap m x u
 cell:∀x c,X.env.cells.lookup x=some c→∃v,s.heap.IsCell c v
 free:H X.env.locals=none
 freeC:∀x c,X.env.cells.lookup x=some c→H c=none
 pin:∀p∈X.pn++pins,s.heap.get? p.1=some p.2∧H p.1=none∧p.1≠X.env.locals∧p.1∉X.fs∧∀v,p.2.data≠.cell v
 hok:HOk X.prog X.w H s.heap
 len:σ.length=X.N.length
section
variable {X:Cx} {pins:List (Addr × Obj)} {σ:List (Option V)} {H H':Hp} {s:Shared} {h':Heap}
theorem Cx.Ok.nofr (ok:X.Ok) {b:Addr} {o:Obj} (e:X.base.get? b=some o):b∉X.fs:=fun hb=>by
 have:=(ok.funs.mem hb).1
 rw[e] at this;cases this
theorem Inv.bs (I:Inv X pins σ H s):∀b o,X.base.get? b=some o→s.heap.get? b=some o∧H b=none:=fun b o e =>
 ⟨I.base.keep b o (I.ok.bs b o e).1 (I.ok.bs b o e).2 (I.ok.nofr e) (I.ok.noex b o e),I.base.free b o (I.ok.bs b o e).1 (I.ok.bs b o e).2 (I.ok.noex b o e)⟩
theorem Inv.bk (I:Inv X pins σ H s):∀b o,X.base.get? b=some o→s.heap.get? b=some o:=fun b o e=>(I.bs b o e).1
theorem Inv.mod (I:Inv X pins σ H s):Mod X.K X.mg X.base:=I.ok.mod
theorem Inv.kIn (I:Inv X pins σ H s):X.K.In s.heap:=I.ok.mod.kin.keeps I.bk
theorem Inv.lt (I:Inv X pins σ H s):X.env.locals<s.heap.objs.size:=let ⟨_,hn,_⟩:=I.loc;hn.lt
theorem Inv.sz (I:Inv X pins σ H s):X.s₀.heap.objs.size≤s.heap.objs.size:=Nat.le_trans I.ok.above (Nat.le_of_lt I.lt)
theorem Inv.nofs (I:Inv X pins σ H s) {a:Addr} (h:s.heap.objs.size≤a):a∉X.fs:=fun hb=>by
 obtain ⟨_,o,ho,_⟩:=I.ok.funs.mem hb
 exact absurd (Nat.lt_of_lt_of_le (Heap.lt_size ho) (Nat.le_trans I.sz h)) (Nat.lt_irrefl _)
theorem Inv.cne (I:Inv X pins σ H s):∀x c,X.env.cells.lookup x=some c→c≠X.env.locals:=fun x c e z=>by
 obtain ⟨v,o,ho,hd⟩:=I.cell x c e
 obtain ⟨m,⟨o',es,ep,ho',hd',_⟩,_⟩:=I.loc
 rw[z,ho'] at ho;cases ho;rw[hd'] at hd;cases hd
theorem Inv.funs (I:Inv X pins σ H s):s.heap.FunFrames X.base X.outer:=by
 have all:∀(l:List Env),(∀b∈frs l,b∈X.fs)→X.s₀.heap.FunFrames X.base l→s.heap.FunFrames X.base l:=by
  intro l
  induction l with
  | nil=>intro _ _;trivial
  | cons env r ih =>
   intro hs hl
   obtain ⟨hk,⟨L,o,hf,hn,ho,hd⟩,hr⟩:=hl
   have hL:L∈X.fs:=hs L (by unfold frs;rw[List.filterMap_cons,hf];exact List.mem_cons_self)
   obtain ⟨sl,e⟩:=I.base.slot L o ho (I.ok.frf L hL) hL fun z=>I.ok.exfs L z hL
   exact ⟨hk,⟨L,_,hf,hn,e,hd⟩,ih (fun b hb=>hs b (by unfold frs;rw[List.filterMap_cons,hf];exact List.mem_cons_of_mem _ hb)) hr⟩
 exact all X.outer (fun _ hb=>hb) I.ok.funs
theorem Inv.stack (I:Inv X pins σ H s):s.heap.FunFrames X.base X.stack:=by
 rcases I.ok.stk with e|⟨e,hf⟩
 ·rw[e];exact I.funs
 ·rw[e]
  obtain ⟨m,hn,_⟩:=I.loc
  refine .cons (by rw[I.ok.kind];decide) hf hn ?_ I.funs
  exact Heap.get?_none_of_le (Nat.le_trans I.ok.bsz I.ok.above)
theorem Inv.stkSub (I:Inv X pins σ H s):∀b∈frs X.stack,b∈X.env.locals::X.fs:=fun b hb=>by
 rcases I.ok.stk with e|⟨e,hf⟩
 ·rw[e] at hb;exact List.mem_cons_of_mem _ hb
 ·rw[e] at hb
  unfold frs at hb
  rw[List.filterMap_cons,hf] at hb
  exact hb
theorem Inv.stkFree (I:Inv X pins σ H s):∀b∈frs X.stack,H b=none:=fun b hb=>by
 rcases List.mem_cons.mp (I.stkSub b hb) with e|hb
 ·rw[e];exact I.free
 ·obtain ⟨_,o,ho,_⟩:=I.ok.funs.mem hb
  exact I.base.free b o ho (I.ok.frf b hb) fun z=>I.ok.exfs b z hb
theorem Inv.step {g':Array GenState} {t':Nat} {d':Drawn} {ch:List Addr} (I:Inv X pins σ H s)
  (hch:∀b∈ch,(b∈X.ex∨X.s₀.heap.objs.size≤b)∧b≠X.env.locals∧(∀x c,X.env.cells.lookup x=some c→c≠b)∧∀p∈X.pn++pins,p.1≠b)
  (keep:∀b o,b≠X.env.locals→b∉X.fs→b∉ch→s.heap.get? b=some o→H b=none→h'.get? b=some o)
  (slot:∀b o,b≠X.env.locals→b∈X.fs→b∉ch→s.heap.get? b=some o→H b=none→∃sl,h'.get? b=some { o with slots:=sl}) (free:∀b o,b∉ch→s.heap.get? b=some o→H b=none→H' b=none)
  (there:∀b o,b∉ch→s.heap.get? b=some o→∃o',h'.get? b=some o')
  (tups:∀b xs,H b=some (.tup xs)→H' b=some (.tup xs)) (frzs:∀b o u,H b=some (.frz o u)→H' b=some (.frz o u)) (tbls:∀b ps,H b=some (.tbl ps)→∃more,H' b=some (.tbl (ps++more)))
  (ns:∀m,s.heap.Ns X.env.locals m→h'.Ns X.env.locals m) (hok:HOk X.prog X.w H' h') (hg:AllBare g') :
  Inv X pins σ H' { s with heap:=h',gens:=g',drawn:=d',toks:=t'}:=by
 have neL:∀b o,X.s₀.heap.get? b=some o→b≠X.env.locals:=fun b o e=>Nat.ne_of_lt (Nat.lt_of_lt_of_le (Heap.lt_size e) I.ok.above)
 have neC:∀b o,X.s₀.heap.get? b=some o→b∉X.ex→b∉ch:=fun b o e hx hb=>by
  rcases (hch b hb).1 with z|z
  ·exact hx z
  ·exact absurd (Nat.lt_of_lt_of_le (Heap.lt_size e) z) (Nat.lt_irrefl _)
 have cellK:∀x c,X.env.cells.lookup x=some c→∀v,s.heap.IsCell c v→h'.IsCell c v:=fun x c e v ⟨o,ho,hd⟩=>by
  have nch:c∉ch:=fun z=>(hch c z).2.2.1 x c e rfl
  by_cases hc:c∈X.fs
  ·obtain ⟨sl,q⟩:=slot c o (I.cne x c e) hc nch ho (I.freeC x c e)
   exact ⟨_,q,hd⟩
  ·exact ⟨o,keep c o (I.cne x c e) hc nch ho (I.freeC x c e),hd⟩
 refine ⟨I.ok,I.os,hg,⟨fun b o e n hb hx=>?_,fun b o e n hb hx=>?_,fun b o e n hx=>?_,fun b o e hx=>?_,fun b xs e=>tups b xs (I.base.tups b xs e),fun b o xs e=>frzs b o xs (I.base.frzs b o xs e),fun b ps e=>?_⟩,?_,fun x c e=>?_,?_,fun x c e=>?_,fun p hp=>?_,hok,I.len⟩
 ·exact keep b o (neL b o e) hb (neC b o e hx) (I.base.keep b o e n hb hx) (I.base.free b o e n hx)
 ·obtain ⟨sl,e1⟩:=I.base.slot b o e n hb hx
  obtain ⟨sl',e2⟩:=slot b _ (neL b o e) hb (neC b o e hx) e1 (I.base.free b o e n hx)
  exact ⟨sl',e2⟩
 ·obtain ⟨o',e1⟩:=I.base.there b o e hx
  exact free b o' (neC b o e hx) e1 (I.base.free b o e n hx)
 ·obtain ⟨o',e1⟩:=I.base.there b o e hx
  exact there b o' (neC b o e hx) e1
 ·obtain ⟨m1,e1⟩:=I.base.tbls b ps e
  obtain ⟨m2,e2⟩:=tbls b _ e1
  exact ⟨m1++m2,by rw[e2,Array.append_assoc]⟩
 ·obtain ⟨m,hn,hl⟩:=I.loc
  refine ⟨m,ns m hn,fun i x v e1 e2 e3=>?_⟩
  obtain ⟨u,r,l⟩:=hl i x v e1 e2 e3
  refine ⟨u,r,?_⟩
  rcases l with l|⟨k,c,e,z⟩
  ·exact .inl l
  ·exact .inr ⟨k,c,e,cellK x c e _ z⟩
 ·obtain ⟨v,z⟩:=I.cell x c e
  exact ⟨v,cellK x c e v z⟩
 ·obtain ⟨m,⟨o,_,_,ho,_⟩,_⟩:=I.loc
  exact free _ o (fun z=>(hch _ z).2.1 rfl) ho I.free
 ·obtain ⟨v,o,ho,hd⟩:=I.cell x c e
  exact free c o (fun z=>(hch c z).2.2.1 x c e rfl) ho (I.freeC x c e)
 ·obtain ⟨e,n,ne,nf,d⟩:=I.pin p hp
  have nch:p.1∉ch:=fun z=>(hch p.1 z).2.2.2 p hp rfl
  exact ⟨keep p.1 p.2 ne nf nch e n,free p.1 p.2 nch e n,ne,nf,d⟩
theorem Inv.un {t':Nat} (I:Inv X pins σ H s) (u:Un X.fs [] H H' s.heap h') (hok:HOk X.prog X.w H' h'):Inv X pins σ H' { s with heap:=h',toks:=t'}:=by
 obtain ⟨m,⟨o,es,ep,ho,r⟩,_⟩:=id I.loc
 obtain ⟨sl,hL⟩:=u.any ho I.free (by simp)
 exact I.step (g':=s.gens) (d':=s.drawn) (ch:=[]) (fun _ z=>nomatch z) (fun b o _ hb _ e n=>u.keep b o e n hb (by simp)) (fun b o _ hb _ e n=>u.slot b o e n hb (by simp)) (fun b o _ e n=>u.free b o e n (by simp)) (fun b o _ e=>u.there b o e (by simp)) u.tups u.frzs u.tbls (fun m' hm=>by
  obtain ⟨o',es',ep',ho',r'⟩:=hm
  rw[ho] at ho';cases ho'
  exact ⟨_,es',ep',hL,r'⟩) hok I.bare
theorem Inv.call {g':Array GenState} {t':Nat} {d':Drawn} {ch:List Addr} (I:Inv X pins σ H s) (u:Un (frs X.stack) ch H H' s.heap h') (hok:HOk X.prog X.w H' h') (hg:AllBare g')
  (hch:∀b∈ch,(b∈X.ex∨X.s₀.heap.objs.size≤b)∧b≠X.env.locals∧(∀x c,X.env.cells.lookup x=some c→c≠b)∧∀p∈X.pn++pins,p.1≠b) :
  Inv X pins σ H' { s with heap:=h',gens:=g',drawn:=d',toks:=t'}:=by
 obtain ⟨m,⟨o,es,ep,ho,r⟩,_⟩:=id I.loc
 obtain ⟨sl,hL⟩:=u.any ho I.free fun z=>(hch _ z).2.1 rfl
 exact I.step (ch:=ch) hch (fun b o hL hb hc e n=>u.keep b o e n (fun z=>(List.mem_cons.mp (I.stkSub b z)).elim hL hb) hc) (fun b o _ _ hc e n=>u.any e n hc) (fun b o hc e n=>u.free b o e n hc) (fun b o hc e=>u.there b o e hc) u.tups u.frzs u.tbls (fun m' hm=>by
  obtain ⟨o',es',ep',ho',r'⟩:=hm
  rw[ho] at ho';cases ho'
  exact ⟨_,es',ep',hL,r'⟩) hok hg
theorem Inv.turned {t':Nat} {it:Addr} (I:Inv X pins σ H s) (k:∀b o,b≠it→s.heap.get? b=some o→h'.get? b=some o) (hn:H it=none) (hL:it≠X.env.locals)
  (h1:it∈X.ex∨X.s₀.heap.objs.size≤it) (h2:∀x c,X.env.cells.lookup x=some c→c≠it) (h3:∀p∈X.pn++pins,p.1≠it):Inv X pins σ H { s with heap:=h',toks:=t'}:=by
 have nit:∀b u,H b=some u→b≠it:=fun b u e z=>by rw[z,hn] at e;cases e
 refine I.step (g':=s.gens) (d':=s.drawn) (ch:=[it]) (fun b hb=>?_) (fun b o _ _ hc e _=>k b o (fun z=>hc (by simp[z])) e) (fun b o _ _ hc e _=>⟨o.slots,k b o (fun z=>hc (by simp[z])) e⟩) (fun _ _ _ _ n=>n)
  (fun b o hc e=>⟨o,k b o (fun z=>hc (by simp[z])) e⟩) (fun _ _ e=>e) (fun _ _ _ e=>e) (fun b ps e=>⟨#[],by rw[e];simp⟩) (fun m hm=>?_) (fun b u e=>?_) I.bare
 ·have e:b=it:=by simpa using hb
  subst e
  exact ⟨h1,hL,h2,h3⟩
 ·obtain ⟨o,es,ep,ho,r⟩:=hm
  exact ⟨o,es,ep,k _ o (Ne.symm hL) ho,r⟩
 ·refine (I.hok b u e).stay (fun c v hc q=>k c v ?_ q) (fun _ q=>q) fun _ _ q=>q
  rcases hc with z|z
  ·rw[z];exact nit b u e
  ·exact nit c _ z
theorem Inv.tok (I:Inv X pins σ H s) (t:Nat):Inv X pins σ H { s with toks:=t}:=I.un (h':=s.heap) (t':=t) Un.refl I.hok
theorem Inv.kept {t':Nat} (I:Inv X pins σ H s) (k:∀b u,s.heap.get? b=some u→h'.get? b=some u):Inv X pins σ H { s with heap:=h',toks:=t'}:=I.un (Un.kept k) (I.hok.kept k)
theorem Inv.laid {a:Addr} {o:HO} {t':Nat} (I:Inv X pins σ H s) (k:∀b u,s.heap.get? b=some u→h'.get? b=some u) (hp:s.heap.objs.size≤a) (new:ObjOk X.prog X.w (upd H a o) h' a o) :
  Inv X pins σ (upd H a o) { s with heap:=h',toks:=t'}:=I.un (Un.laid k hp (I.hok.fresh hp)) (I.hok.laid k hp new)
theorem Inv.write {x e:Addr} {o:HO} {t':Nat} (I:Inv X pins σ H s) (mu:Mut (H x)) (he:e=x∨H e=some (.own x)) (k:∀b u,b≠e→s.heap.get? b=some u→h'.get? b=some u) (heo:∃u,h'.get? e=some u)
  (new:ObjOk X.prog X.w (upd H x o) h' x o):Inv X pins σ (upd H x o) { s with heap:=h',toks:=t'}:=I.un (Un.write mu he k heo) (I.hok.write mu he k heo new)
theorem Inv.pins_of {pins':List (Addr × Obj)} (I:Inv X pins σ H s) (h:∀p∈pins',s.heap.get? p.1=some p.2∧H p.1=none∧p.1≠X.env.locals∧p.1∉X.fs∧∀v,p.2.data≠.cell v):Inv X pins' σ H s :=
 ⟨I.ok,I.os,I.bare,I.base,I.loc,I.cell,I.free,I.freeC,fun p hp=>(List.mem_append.mp hp).elim (fun z=>I.pin p (List.mem_append_left _ z)) (h p),I.hok,I.len⟩
theorem kX {N:List Str} (hN:N.Nodup) {i j:Nat} {x:Str} (a:N[i]?=some x) (b:N[j]?=some x):i=j:=by
 obtain ⟨h1,e1⟩:=List.getElem?_eq_some_iff.mp a
 obtain ⟨h2,e2⟩:=List.getElem?_eq_some_iff.mp b
 exact (List.getElem_inj hN).mp (e1.trans e2.symm)
theorem pi {M:Model} {A:Around} {E:Value→Shared→Prop} {i:Nat} {x:Str} {v:V} {u:Value} {Q:Unit→Shared→Prop} (I:Inv X pins σ H s) (hN:X.N.Nodup) (hi:X.N[i]?=some x) (hx:Loc X.env.scope x) (r:RelV v u)
  (h:∀s',Inv X pins (σ.set i (some v)) H s'→(∃a,Heap.SameBut a s.heap s'.heap∧(a=X.env.locals∨X.env.cells.lookup x=some a))→Q () s') (hf:X.fn x=true∨X.env.scope.names.lookup x=some .local:=by first | exact .inl rfl | exact .inr rfl | assumption):wpAny M A (storeName X.env x u) Q E s:=by
 obtain ⟨m,hn,hl⟩:=id I.loc
 have hcls:(X.env.scope.kind == .class || (X.env.scope.kind == .module && X.env.locals != X.env.globals))=false:=by rw[I.ok.kind];rfl
 have hiσ:i<σ.length:=by rw[I.len];exact (List.getElem?_eq_some_iff.mp hi).1
 have cne:=I.cne
 have tracked:∀{a:Addr} {h':Heap},(∃o,s.heap.get? a=some o∧H a=none)→Heap.SameBut a s.heap h'→HOk X.prog X.w H h':=fun {a h'} ha hs b ob e=>by
  obtain ⟨_,_,hfree⟩:=ha
  refine (I.hok b ob e).stay (fun c w' hc q=>(hs.2 c ?_).trans q) (fun _ q=>q) fun _ _ q=>q
  rintro rfl
  rcases hc with rfl|hc
  ·rw[hfree] at e;cases e
  ·rw[hfree] at hc;cases hc
 rcases hx with hk|hk
 ·refine wpAny_storeName_local hk hn (fun h' hn' hs=>?_) hcls
  obtain ⟨oL,_,_,hoL,_⟩:=id hn
  refine h _ ⟨I.ok,I.os,I.bare,⟨fun b o e n hb hx=>?_,fun b o e n hb hx=>?_,I.base.free,fun b o e hx=>?_,I.base.tups,I.base.frzs,I.base.tbls⟩,⟨_,hn',fun j y v' e1 e2 e3=>?_⟩,fun y c e=>?_,I.free,I.freeC,fun p hp=>?_,tracked ⟨oL,hoL,I.free⟩ hs,by simpa using I.len⟩ ⟨_,hs,.inl rfl⟩
  ·exact (hs.2 b (Nat.ne_of_lt (Nat.lt_of_lt_of_le (Heap.lt_size e) I.ok.above))).trans (I.base.keep b o e n hb hx)
  ·obtain ⟨sl,e1⟩:=I.base.slot b o e n hb hx
   exact ⟨sl,(hs.2 b (Nat.ne_of_lt (Nat.lt_of_lt_of_le (Heap.lt_size e) I.ok.above))).trans e1⟩
  ·obtain ⟨o',e1⟩:=I.base.there b o e hx
   exact ⟨o',(hs.2 b (Nat.ne_of_lt (Nat.lt_of_lt_of_le (Heap.lt_size e) I.ok.above))).trans e1⟩
  ·by_cases hj:j=i
   ·subst hj
    rw[hi] at e1;cases e1
    rw[List.getElem?_set_self hiσ] at e2
    cases e2
    exact ⟨u,r,.inl ⟨hk,by simp⟩⟩
   ·rw[List.getElem?_set_ne (Ne.symm hj)] at e2
    obtain ⟨u',r',q⟩:=hl j y v' e1 e2 e3
    refine ⟨u',r',?_⟩
    rcases q with ⟨k,e⟩|⟨k,c,e,z⟩
    ·refine .inl ⟨k,?_⟩
     have:y≠x:=fun e=>hj (kX hN e1 (e▸hi))
     simp[this,e]
    ·exact .inr ⟨k,c,e,z.sameBut hs (cne y c e)⟩
  ·obtain ⟨w',z⟩:=I.cell y c e
   exact ⟨w',z.sameBut hs (cne y c e)⟩
  ·obtain ⟨e,n,ne,nf,d⟩:=I.pin p hp
   exact ⟨(hs.2 p.1 ne).trans e,n,ne,nf,d⟩
 ·have hfn:X.fn x=true:=by
   rcases hf with z|z
   ·exact z
   ·rw[z] at hk;cases hk
  obtain ⟨c,hc⟩:=I.ok.has x (.inl hk)
  obtain ⟨w',z⟩:=I.cell x c hc
  refine wpAny_storeName_cell I.ok.kind hk hc z (fun h' hc' hs=>?_)
  obtain ⟨oc,hoc,hocd⟩:=id z
  refine h { s with heap:=h'} ⟨I.ok,I.os,I.bare,⟨fun b o e n hb hx=>?_,fun b o e n hb hx=>?_,I.base.free,fun b o e hx=>?_,I.base.tups,I.base.frzs,I.base.tbls⟩,⟨m,hn.sameBut hs (Ne.symm (cne x c hc)),fun j y v' e1 e2 e3=>?_⟩,fun y c' e=>?_,I.free,I.freeC,fun p hp=>?_,tracked ⟨oc,hoc,I.freeC x c hc⟩ hs,by simpa using I.len⟩ ⟨c,hs,.inr hc⟩
  ·exact (hs.2 b (Nat.ne_of_lt (Nat.lt_of_lt_of_le (Heap.lt_size e) (I.ok.cab x c hfn hc)))).trans (I.base.keep b o e n hb hx)
  ·obtain ⟨sl,e1⟩:=I.base.slot b o e n hb hx
   exact ⟨sl,(hs.2 b (Nat.ne_of_lt (Nat.lt_of_lt_of_le (Heap.lt_size e) (I.ok.cab x c hfn hc)))).trans e1⟩
  ·obtain ⟨o',e1⟩:=I.base.there b o e hx
   exact ⟨o',(hs.2 b (Nat.ne_of_lt (Nat.lt_of_lt_of_le (Heap.lt_size e) (I.ok.cab x c hfn hc)))).trans e1⟩
  ·by_cases hj:j=i
   ·subst hj
    rw[hi] at e1;cases e1
    rw[List.getElem?_set_self hiσ] at e2
    cases e2
    exact ⟨u,r,.inr ⟨.inl hk,c,hc,hc'⟩⟩
   ·rw[List.getElem?_set_ne (Ne.symm hj)] at e2
    obtain ⟨u',r',q⟩:=hl j y v' e1 e2 e3
    refine ⟨u',r',?_⟩
    rcases q with q|⟨k,c',e,z'⟩
    ·exact .inl q
    ·refine .inr ⟨k,c',e,z'.sameBut hs ?_⟩
     rintro rfl
     exact hj (kX hN e1 (I.ok.inj _ _ _ e hc▸hi))
  ·by_cases hcc:c'=c
   ·subst hcc;exact ⟨_,hc'⟩
   ·obtain ⟨w2,z2⟩:=I.cell y c' e
    exact ⟨w2,z2.sameBut hs hcc⟩
  ·obtain ⟨e,n,ne,nf,d⟩:=I.pin p hp
   refine ⟨(hs.2 p.1 ?_).trans e,n,ne,nf,d⟩
   intro q
   rw[q,hoc] at e
   have q':oc=p.2:=Option.some.inj e
   exact d w' (by rw[←q'];exact hocd)
theorem f6 {M:Model} {A:Around} {E:Value→Shared→Prop} {i:Nat} {x:Str} {v:V} {u:Value} {Q:Unit→Shared→Prop} (I:Inv X pins σ H s) (hN:X.N.Nodup) (hi:X.N[i]?=some x) (hx:Loc X.env.scope x) (r:RelV v u)
  (h:∀s',Inv X pins (σ.set i (some v)) H s'→Q () s') (hf:X.fn x=true∨X.env.scope.names.lookup x=some .local:=by first | exact .inl rfl | exact .inr rfl | assumption):wpAny M A (storeName X.env x u) Q E s :=
 pi I hN hi hx r (fun s' I' _=>h s' I') hf
theorem Inv.call' {s':Shared} {ch:List Addr} (I:Inv X pins σ H s) (ho:s'.os=s.os) (u:Un (frs X.stack) ch H H' s.heap s'.heap) (hok:HOk X.prog X.w H' s'.heap) (hg:AllBare s'.gens)
  (hch:∀b∈ch,(b∈X.ex∨X.s₀.heap.objs.size≤b)∧b≠X.env.locals∧(∀x c,X.env.cells.lookup x=some c→c≠b)∧∀p∈X.pn++pins,p.1≠b):Inv X pins σ H' s':=by
 obtain ⟨h',g',d',t',o'⟩:=s'
 have e:o'=s.os:=ho
 subst e
 exact I.call (g':=g') (t':=t') (d':=d') u hok hg hch
end
abbrev XK:=Value→Option Addr→Hp→Prop
abbrev St:=List (Option V)
abbrev VK:=V→Hp→Prop
abbrev TE:=St→Hp→VK→Prop
abbrev TT:=St→Hp→(Bool→Hp→Prop)→Prop
abbrev TA:=St→Hp→(List V→Hp→Prop)→Prop
structure Ends where
 nx:St→Hp→Prop
 rt:VK
 bk:St→Hp→Prop:=fun _ _=>False
 ct:St→Hp→Prop:=fun _ _=>False
abbrev TS:=Ends→St→Hp→Prop
def EP (X:Cx) (pins:List (Addr × Obj)) (σ:St) (Q:VK) (u:Value) (s':Shared):Prop:=∃v H',Inv X pins σ H' s'∧RelV v u∧Q v H'
def TP (X:Cx) (pins:List (Addr × Obj)) (σ:St) (Q:Bool→Hp→Prop) (b:Bool) (s':Shared):Prop:=∃H',Inv X pins σ H' s'∧Q b H'
def AP (X:Cx) (pins:List (Addr × Obj)) (σ:St) (Q:List V→Hp→Prop) (us:List Value) (s':Shared):Prop:=∃vs H',Inv X pins σ H' s'∧Vals vs us∧Q vs H'
def SP (X:Cx) (pins:List (Addr × Obj)) (D:Ends) (f:Flow) (s':Shared):Prop :=
 match f with
 | .next=>∃σ' H',Inv X pins σ' H' s'∧D.nx σ' H'
 | .brk=>∃σ' H',Inv X pins σ' H' s'∧D.bk σ' H'
 | .cont=>∃σ' H',Inv X pins σ' H' s'∧D.ct σ' H'
 | .ret u=>∃v σ' H',Inv X pins σ' H' s'∧RelV v u∧D.rt v H'
def PE (X:Cx) (e:Expr) (t:TE):Prop :=
 ∀(pins:List (Addr × Obj)) (s:Shared) (σ:St) (H:Hp) (Q:VK),Inv X pins σ H s→t σ H Q→wpAny (model X.prog X.w) X.A (eval e X.env) (EP X pins σ Q) X.xe s
def PT (X:Cx) (e:Expr) (t:TT):Prop :=
 ∀(pins:List (Addr × Obj)) (s:Shared) (σ:St) (H:Hp) (Q:Bool→Hp→Prop),Inv X pins σ H s→t σ H Q→wpAny (model X.prog X.w) X.A (isTrue e X.env (eval e X.env)) (TP X pins σ Q) X.xe s
def PW (X:Cx) (e:Expr) (t:TT):Prop :=
 ∀(whole:Sem Value) (pins:List (Addr × Obj)) (s:Shared) (σ:St) (H:Hp) (Q:Bool→Hp→Prop),Inv X pins σ H s→t σ H Q→wpAny (model X.prog X.w) X.A (isTrue e X.env whole) (TP X pins σ Q) X.xe s
theorem PW.pt {X:Cx} {e:Expr} {t:TT} (h:PW X e t):PT X e t:=h _
def PA (X:Cx) (es:List Expr) (t:TA):Prop :=
 ∀(pos:Pos) (pins:List (Addr × Obj)) (s:Shared) (σ:St) (H:Hp) (Q:List V→Hp→Prop),Inv X pins σ H s→t σ H Q→wpAny (model X.prog X.w) X.A (spliced (backTo pos (starEach es X.env))) (AP X pins σ Q) X.xe s
def PS (X:Cx) (st:Stmt) (t:TS):Prop :=
 ∀(pins:List (Addr × Obj)) (s:Shared) (σ:St) (H:Hp) (D:Ends),Inv X pins σ H s→t D σ H→wpAny (model X.prog X.w) X.A (exec st X.env) (SP X pins D) X.xe s
def PSs (X:Cx) (st:List Stmt) (t:TS):Prop :=
 ∀(pins:List (Addr × Obj)) (s:Shared) (σ:St) (H:Hp) (D:Ends),Inv X pins σ H s→t D σ H→wpAny (model X.prog X.w) X.A (execs st X.env) (SP X pins D) X.xe s
theorem thn {α:Type} {t:Sem α} {Q Q':α→Shared→Prop} {M:Model} {A:Around} {E:Value→Shared→Prop} {s:Shared} (h:wpAny M A t Q E s) (hQ:∀a s,Q a s→Q' a s):wpAny M A t Q' E s:=wpAny_mono h hQ fun _ _ x=>x
section
variable {X:Cx}
def tVar (i:Nat):TE:=fun σ H Q=>∃v,σ[i]?=some (some v)∧Q v H
def tC (v:V):TE:=fun _ H Q=>Q v H
theorem pe_var {i:Nat} {x:Str} {pos:Pos} (hN:X.N[i]?=some x) (hv:Vis X.env.scope x) (hd:(x == ("__debug__":Str))=false:=by decide) (hcd:(x == ("__classdict__":Str))=false:=by decide):PE X (.Name x pos) (tVar i):=by
 intro pins s σ H Q I h
 obtain ⟨v,e,h⟩:=h
 obtain ⟨m,hn,hl⟩:=I.loc
 obtain ⟨u,r,l⟩:=hl i x v hN e hv
 have fin:EP X pins σ Q u s:=⟨v,H,I,r,h⟩
 rcases l with ⟨hk,hm⟩|⟨hk,c,hc,hcell⟩
 ·exact wpAny_Name (wpAny_loadName_local I.ok.kind hk hn hm fin) hd
 ·rcases hk with hk|hk
  ·exact wpAny_Name (wpAny_loadName_cell I.ok.kind hk hc hcell fin) hd
  ·exact wpAny_Name (wpAny_loadName_free I.ok.kind hk hc hcell fin hcd) hd
theorem pe_int {i j pos}:PE X (.Constant (.int i) j pos) (tC (.int i)):=fun _ _ _ H _ I h=>wpAny_Constant_int ⟨.int i,H,I.tok _,⟨_,rfl⟩,h⟩
theorem pe_bl {b j pos}:PE X (.Constant (.bool b) j pos) (tC (.bl b)):=fun _ _ _ H _ I h=>Constant_bool ⟨.bl b,H,I,rfl,h⟩
def Gl (X:Cx) (x:Str):Prop:=X.env.kindOf x=some .globalImplicit
theorem nc {E:Value→Shared→Prop} {pins:List (Addr × Obj)} {s:Shared} {σ:St} {H:Hp} {x:Str} {u:Value} {pos:Pos} {Q:Value→Shared→Prop} (I:Inv X pins σ H s) (hg:Gl X x) (hm:X.mg x=some u) (h:Q u s)
  (hd:(x == ("__debug__":Str))=false:=by decide):wpAny (model X.prog X.w) X.A (eval (.Name x pos) X.env) Q E s :=
 Calls.Name_function_global I.ok.kind hg (Calls.loadGlobal_global (by rw[I.ok.glob];exact I.mod.glob.keeps I.bk) hm h) hd
theorem gQ {E:Value→Shared→Prop} {pins:List (Addr × Obj)} {s:Shared} {σ:St} {H:Hp} {x:Str} {u:Value} {pos:Pos} {Q:Value→Shared→Prop} (I:Inv X pins σ H s) (hg:Gl X x) (hm:X.mg x=none) (hv:bootBuiltins x=some u) (h:Q u s)
  (hn:x≠"__name__":=by decide) (hd:(x == ("__debug__":Str))=false:=by decide):wpAny (model X.prog X.w) X.A (eval (.Name x pos) X.env) Q E s:=by
 obtain ⟨mb,h1,h2⟩:=I.mod.blt
 exact Calls.Name_function_global I.ok.kind hg (Calls.loadGlobal_builtin (by rw[I.ok.glob];exact I.mod.glob.keeps I.bk) hm (by rw[I.ok.blt];exact h1.keeps I.bk) ((h2 x hn).trans hv) h) hd
theorem pe_glob {x:Str} {v:V} {u:Value} {pos:Pos} (hg:Gl X x) (hm:X.mg x=some u) (r:RelV v u) (hd:(x == ("__debug__":Str))=false:=by decide):PE X (.Name x pos) (tC v) :=
 fun _ _ _ H _ I h=>nc I hg hm ⟨v,H,I,r,h⟩ hd
theorem pe_bltn {x:Str} {v:V} {u:Value} {pos:Pos} (hg:Gl X x) (hm:X.mg x=none) (hv:bootBuiltins x=some u) (r:RelV v u) (hn:x≠"__name__":=by decide) (hd:(x == ("__debug__":Str))=false:=by decide):PE X (.Name x pos) (tC v) :=
 fun _ _ _ H _ I h=>gQ I hg hm hv ⟨v,H,I,r,h⟩ hn hd
variable {a b:Expr} {ta tb:TE} {pos:Pos}
def tB (t:TE):TT:=fun σ H Q=>t σ H fun x H1=>∃c,x=.bl c∧Q c H1
theorem pt_val {e:Expr} {t:TE} (h:PE X e t) (he:∀whole,isTrue e X.env whole=(do let v ←whole;standAt e.pos;holding [v] (truthy v)):=by intro _;rfl):PT X e (tB t):=by
 intro pins s σ H Q I hw
 refine isTrue_plain (thn (h pins s σ H _ I hw) fun v s1 ⟨x,H1,I1,r1,q1⟩=>?_) (he _)
 obtain ⟨d,rfl,q⟩:=q1
 cases r1
 exact wpAny_truthy_bool ⟨H1,I1,q⟩
variable {tA tB':TT} {rest:List Expr}
def tAnd (t u:TT):TT:=fun σ H Q=>t σ H fun c H1=>if c=true then u σ H1 Q else Q false H1
def tOr (t u:TT):TT:=fun σ H Q=>t σ H fun c H1=>if c=true then Q true H1 else u σ H1 Q
def tNot (t:TT):TT:=fun σ H Q=>t σ H fun c H1=>Q (!c) H1
theorem pw_and1 (ha:PT X a tA):PW X (.BoolOp .And [a] pos) tA:=by
 intro wh pins s σ H Q I h
 refine isTrue_and (thn (ha pins s σ H Q I h) fun c s1 e=>?_)
 cases c with
 | true=>exact isTrue_and_nil e
 | false=>exact e
theorem pw_or1 (ha:PT X a tA):PW X (.BoolOp .Or [a] pos) tA:=by
 intro wh pins s σ H Q I h
 refine isTrue_or (thn (ha pins s σ H Q I h) fun c s1 e=>?_)
 cases c with
 | false=>exact isTrue_or_nil e
 | true=>exact e
theorem pw_and (ha:PT X a tA) (hb:PW X (.BoolOp .And (b::rest) pos) tB'):PW X (.BoolOp .And (a::b::rest) pos) (tAnd tA tB'):=by
 intro wh pins s σ H Q I h
 refine isTrue_and (thn (ha pins s σ H _ I h) fun c s1 ⟨H1,I1,q1⟩=>?_)
 cases c with
 | true=>exact hb wh pins s1 σ H1 Q I1 q1
 | false=>exact ⟨H1,I1,q1⟩
theorem pw_or (ha:PT X a tA) (hb:PW X (.BoolOp .Or (b::rest) pos) tB'):PW X (.BoolOp .Or (a::b::rest) pos) (tOr tA tB'):=by
 intro wh pins s σ H Q I h
 refine isTrue_or (thn (ha pins s σ H _ I h) fun c s1 ⟨H1,I1,q1⟩=>?_)
 cases c with
 | true=>exact ⟨H1,I1,q1⟩
 | false=>exact hb wh pins s1 σ H1 Q I1 q1
theorem pt_not (ha:PT X a tA):PT X (.UnaryOp .Not a pos) (tNot tA):=by
 intro pins s σ H Q I h
 exact isTrue_not (ha pins s σ H (fun c H1=>Q (!c) H1) I h)
def tAndV (ta tb:TE):TE:=fun σ H Q=>ta σ H fun x H1=>∃c,x=.bl c∧if c=true then tb σ H1 Q else Q (.bl false) H1
theorem pe_one {op} {t:TE} (h:PE X a t):PE X (.BoolOp op [a] pos) t:=fun pins s σ H Q I hw=>BoolOp_one (h pins s σ H Q I hw)
theorem pe_and (ha:PE X a ta) (hb:PE X (.BoolOp .And (b::rest) pos) tb):PE X (.BoolOp .And (a::b::rest) pos) (tAndV ta tb):=by
 intro pins s σ H Q I h
 refine BoolOp_and (thn (ha pins s σ H _ I h) fun v s1 ⟨x,H1,I1,r1,q1⟩=>?_)
 obtain ⟨c,rfl,q1⟩:=q1
 cases r1
 refine wpAny_truthy_bool ?_
 cases c with
 | true=>exact hb pins s1 σ H1 Q I1 q1
 | false=>exact ⟨.bl false,H1,I1,rfl,q1⟩
end
def SqL (K:PySem.W.Frag) (H:Hp) (a:Addr) (xs:List V):Prop :=
 Rd H a (.lst xs) ∨
  ∃(o:Obj) (its:Array Value) (n:Nat),K.lookup a=some o∧o.cls=.type "list"∧o.dict=none∧o.data=.seq its n∧its.size≤sizeLine∧Vals xs its.toList
def SqT (K:PySem.W.Frag) (H:Hp) (a:Addr) (xs:List V):Prop :=
 Rd H a (.tup xs) ∨
  ∃(o:Obj) (its:Array Value) (n:Nat),K.lookup a=some o∧o.cls=.type "tuple"∧(o.data=.seq its n∧o.dict=none)∧its.size≤sizeLine∧Vals xs its.toList
def absV:Value→Option V
 | .none=>some .non
 | .bool b=>some (.bl b)
 | .int i _=>some (.int i)
 | .str x _=>some (.str x)
 | .bytes b _=>some (.byt b)
 | .float b _=>some (.flt b)
 | .ref a=>some (.ref a)
 | .type n=>some (.ty n)
 | _=>none
theorem RelV.abs {x:V} {u:Value} (r:RelV x u):absV u=some x:=by
 cases x with
 | non=>cases r;rfl
 | bl _=>cases r;rfl
 | int _=>obtain ⟨t,rfl⟩:=r;rfl
 | str _=>obtain ⟨t,rfl⟩:=r;rfl
 | byt _=>obtain ⟨t,rfl⟩:=r;rfl
 | flt _=>obtain ⟨t,rfl⟩:=r;rfl
 | ref _=>cases r;rfl
 | ty _=>cases r;rfl
theorem RelV.inj {x y:V} {u:Value} (r:RelV x u) (q:RelV y u):x=y:=Option.some.inj (r.abs.symm.trans q.abs)
theorem Vals.inj:∀{xs ys:List V} {us:List Value},Vals xs us→Vals ys us→xs=ys
 | _,_,_,.nil,.nil=>rfl
 | _,_,_,.cons r t,.cons r' t'=>by rw[r.inj r',Vals.inj t t']
section
variable {X:Cx} {pins:List (Addr × Obj)} {σ:St} {H:Hp} {s:Shared} {a:Addr} {xs ys:List V}
theorem SqL.of {K:PySem.W.Frag} (h:H a=some (.lst xs)):SqL K H a xs:=.inl (.inl h)
theorem SqT.of {K:PySem.W.Frag} (h:H a=some (.tup xs)):SqT K H a xs:=.inl (.inl h)
theorem Inv.list (I:Inv X pins σ H s) (h:SqL X.K H a xs):∃its:List Value,Vals xs its∧PlainL s.heap a its.toArray∧xs.length≤sizeLine:=by
 rcases h with h|⟨o,its,n,hk,hc,hd,hs,hz,r⟩
 ·obtain ⟨z,its,n,r,e⟩:=h.ok I.hok
  exact ⟨its,r,⟨_,n,e,rfl,rfl,rfl⟩,z⟩
 ·refine ⟨its.toList,r,⟨o,n,I.kIn a o hk,hc,hd,by simpa using hs⟩,?_⟩
  have e:=r.length
  simp only[Array.length_toList] at e
  omega
theorem Inv.tupleN (I:Inv X pins σ H s) (h:SqT X.K H a xs):∃its:List Value,Vals xs its∧TupN s.heap a its.toArray∧xs.length≤sizeLine:=by
 rcases h with h|⟨o,its,n,hk,hc,hs,hz,r⟩
 ·obtain ⟨z,its,r,p⟩:=h.ok I.hok
  exact ⟨its,r,p,z⟩
 ·refine ⟨its.toList,r,⟨o,I.kIn a o hk,hc,⟨n,by simpa using hs.1⟩,hs.2⟩,?_⟩
  have e:=r.length
  simp only[Array.length_toList] at e
  omega
theorem Inv.tuple (I:Inv X pins σ H s) (h:SqT X.K H a xs):∃its:List Value,Vals xs its∧IsTup s.heap a its.toArray∧xs.length≤sizeLine :=
 let ⟨its,r,p,z⟩:=I.tupleN h
 ⟨its,r,p.tup,z⟩
theorem Inv.list_inj (I:Inv X pins σ H s) (h:SqL X.K H a xs) (h':SqL X.K H a ys):xs=ys:=by
 obtain ⟨its,r,⟨o,n,e,_,_,d⟩,_⟩:=I.list h
 obtain ⟨its',r',⟨o',n',e',_,_,d'⟩,_⟩:=I.list h'
 rw[e] at e';cases e'
 rw[d] at d'
 injection d' with d1 _
 have:its=its':=by simpa using congrArg Array.toList d1
 subst this
 exact r.inj r'
theorem Inv.tuple_inj (I:Inv X pins σ H s) (h:SqT X.K H a xs) (h':SqT X.K H a ys):xs=ys:=by
 obtain ⟨its,r,⟨o,e,_,n,d⟩,_⟩:=I.tuple h
 obtain ⟨its',r',⟨o',e',_,n',d'⟩,_⟩:=I.tuple h'
 rw[e] at e';cases e'
 rw[d] at d'
 injection d' with d1 _
 have:its=its':=by simpa using congrArg Array.toList d1
 subst this
 exact r.inj r'
end
section
variable {X:Cx} {pins:List (Addr × Obj)} {σ:St} {H:Hp} {s:Shared} {E:Value→Shared→Prop}
end
section
variable {X:Cx} {st:Stmt} {rest:List Stmt} {t u:TS} {e:Expr} {te:TE} {pos:Pos}
def tNext:TS:=fun D σ H=>D.nx σ H
def tSeq (t u:TS):TS:=fun D σ H=>t { D with nx:=u D} σ H
theorem pss_nil:PSs X [] tNext:=fun _ _ σ H _ I h=>wpAny_execs_nil ⟨σ,H,I,h⟩
theorem qX (h1:PS X st t) (h2:PSs X rest u):PSs X (st::rest) (tSeq t u):=by
 intro pins s σ H D I h
 refine wpAny_execs_cons (thn (h1 pins s σ H { D with nx:=u D} I h) fun f s1 q=>?_)
 cases f with
 | next =>
  obtain ⟨σ',H',I',q⟩:=q
  exact h2 pins s1 σ' H' D I' q
 | ret v=>exact q
 | brk=>exact q
 | cont=>exact q
theorem pss_one (h1:PS X st t):PSs X [st] t:=by
 intro pins s σ H D I h
 refine wpAny_execs_cons (thn (h1 pins s σ H D I h) fun f s1 q=>?_)
 cases f with
 | next=>exact wpAny_execs_nil q
 | ret v=>exact q
 | brk=>exact q
 | cont=>exact q
theorem Inv.quiet {pins:List (Addr × Obj)} {σ:St} {H:Hp} {s:Shared} (I:Inv X pins σ H s):interactive X.env=false:=by simp[interactive,I.ok.kind]
def tDrop (te:TE):TS:=fun D σ H=>te σ H fun _ H1=>D.nx σ H1
theorem ps_expr (he:PE X e te) (hs:swapsWith e none pos.line X.env=pure false:=by rfl):PS X (.Expr e pos) (tDrop te):=by
 intro pins s σ H D I h
 exact wpAny_Expr_any (thn (he pins s σ H _ I h) fun v s1 ⟨x,H1,I1,r1,q1⟩=>⟨σ,H1,I1,q1⟩) I.quiet hs
def tRet (te:TE):TS:=fun D σ H=>te σ H D.rt
theorem ps_ret (he:PE X e te):PS X (.Return (some e) pos) (tRet te):=by
 intro pins s σ H D I h
 exact wpAny_Return_some (thn (he pins s σ H _ I h) fun v s1 ⟨x,H1,I1,r1,q1⟩=>⟨x,σ,H1,I1,r1,q1⟩)
def tIfS (c:TT) (t u:TS):TS:=fun D σ H=>c σ H fun b H1=>if b=true then t D σ H1 else u D σ H1
theorem ps_if {c:Expr} {a b:List Stmt} {tc:TT} (hc:PT X c tc) (ha:PSs X a t) (hb:PSs X b u):PS X (.If c a b pos) (tIfS tc t u):=by
 intro pins s σ H D I h
 refine wpAny_If (thn (hc pins s σ H _ I h) fun d s1 ⟨H1,I1,q1⟩=>?_)
 cases d with
 | true=>exact ha pins s1 σ H1 D I1 q1
 | false=>exact hb pins s1 σ H1 D I1 q1
end
abbrev TG:=V→St→Hp→(St→Hp→Prop)→Prop
abbrev TGs:=List V→St→Hp→(St→Hp→Prop)→Prop
def PG (X:Cx) (target:Expr) (t:TG):Prop :=
 ∀(pins:List (Addr × Obj)) (s:Shared) (σ:St) (H:Hp) (v:V) (u:Value) (Q:St→Hp→Prop),Inv X pins σ H s→RelV v u→t v σ H Q →
  wpAny (model X.prog X.w) X.A (assign target X.env u) (fun _ s'=>∃σ' H',Inv X pins σ' H' s'∧Q σ' H') X.xe s
def PGs (X:Cx) (ts:List Expr) (t:TGs):Prop :=
 ∀(pins:List (Addr × Obj)) (s:Shared) (σ:St) (H:Hp) (vs:List V) (us:List Value) (Q:St→Hp→Prop),Inv X pins σ H s→Vals vs us→t vs σ H Q →
  wpAny (model X.prog X.w) X.A (assignInOrder ((assignEach ts X.env).map (·.2)) us) (fun _ s'=>∃σ' H',Inv X pins σ' H' s'∧Q σ' H') X.xe s
abbrev TSet:=V→V→V→Hp→(Hp→Prop)→Prop
def PSet (X:Cx) (t:TSet):Prop :=
 ∀(pins:List (Addr × Obj)) (s:Shared) (σ:St) (H:Hp) (o i v:V) (ov iv u:Value) (Q:Hp→Prop),Inv X pins σ H s→RelV o ov→RelV i iv→RelV v u→t o i v H Q →
  wpAny (model X.prog X.w) X.A (setItem ov iv u) (fun _ s'=>∃H',Inv X pins σ H' s'∧Q H') X.xe s
section
variable {X:Cx} {pos:Pos}
def gName (i:Nat):TG:=fun v σ H Q=>Q (σ.set i (some v)) H
theorem mZ {i:Nat} {x:Str} (hN:X.N.Nodup) (hi:X.N[i]?=some x) (hx:Loc X.env.scope x) (hf:X.fn x=true∨X.env.scope.names.lookup x=some .local:=by first | exact .inl rfl | exact .inr rfl | assumption):PG X (.Name x pos) (gName i):=by
 intro pins s σ H v u Q I r h
 exact wpAny_assign_Name (f6 I hN hi hx r (fun s' I'=>⟨_,H,I',h⟩) hf)
def gNil:TGs:=fun vs σ H Q=>vs=[]∧Q σ H
def gCons (t:TG) (u:TGs):TGs:=fun vs σ H Q=>∃v r,vs=v::r∧t v σ H fun σ' H'=>u r σ' H' Q
theorem pgs_nil:PGs X [] gNil:=by
 intro pins s σ H vs us Q I r h
 obtain ⟨e,h⟩:=h
 subst e
 cases r
 exact assignInOrder_nil ⟨σ,H,I,h⟩
theorem rD {e:Expr} {es:List Expr} {t:TG} {u:TGs} (h1:PG X e t) (h2:PGs X es u)
  (hs:(assignEach (e::es) X.env).map (·.2)=assign e X.env::(assignEach es X.env).map (·.2):=by rfl):PGs X (e::es) (gCons t u):=by
 intro pins s σ H vs us Q I r h
 obtain ⟨v,vr,e1,h⟩:=h
 subst e1
 cases r with
 | cons r rr =>
  rw[hs]
  refine assignInOrder_cons (thn (h1 pins s σ H _ _ _ I r h) fun _ s1 ⟨σ1,H1,I1,q1⟩=>?_)
  exact h2 pins s1 σ1 H1 _ _ Q I1 rr q1
def gTup (K:PySem.W.Frag) (n:Nat) (t:TGs):TG:=fun v σ H Q=>∃a xs,v=.ref a∧SqT K H a xs∧xs.length=n∧t xs σ H Q
theorem pg_tup {es:List Expr} {k:Nat} {t:TGs} {n:Nat} (hc:X.calm=true) (h:PGs X es t)
  (hn:(assignEach es X.env).length=n:=by rfl) (hst:(assignEach es X.env).findIdx? (·.1)=none:=by rfl):PG X (.Tuple es k pos) (gTup X.K n t):=by
 intro pins s σ H v u Q I r hw
 obtain ⟨a,xs,e1,hq,hl,hw⟩:=hw
 subst e1
 cases r
 obtain ⟨its,rv,ht,hz⟩:=I.tuple hq
 refine assign_Tuple_tuple (I.ok.hd hc) ht (by simp[hn,←hl,rv.length]) hst fun h' hx=>?_
 have I1:Inv X pins σ H { s with heap:=h'}:=I.kept (t':=s.toks) fun b o e=>hx b o (Nat.ne_of_lt (Heap.lt_size e)) e
 exact h pins _ σ H xs _ Q I1 (by simpa using rv) hw
def gSub (to ti:TE) (t:TSet):TG:=fun v σ H Q=>to σ H fun o H1=>ti σ H1 fun i H2=>t o i v H2 fun H3=>Q σ H3
theorem pg_sub {o i:Expr} {to ti:TE} {t:TSet} (ho:PE X o to) (hi:PE X i ti) (hs:PSet X t)
  (ha:∀v,assign (.Subscript o i pos) X.env v=(do
   let ov ←holding [v] (eval o X.env)
   let iv ←holding [v,ov] (eval i X.env)
   standAt pos
   holding [v,ov,iv] (setItem ov iv v)
   release [v,ov,iv] []):=by intro _;rfl):PG X (.Subscript o i pos) (gSub to ti t):=by
 intro pins s σ H v u Q I r h
 rw[ha]
 refine wpAny_bind (wpAny_holding (thn (ho pins s σ H _ I h) fun ov s1 ⟨x,H1,I1,r1,q1⟩=>?_))
 refine wpAny_bind (wpAny_holding (thn (hi pins s1 σ H1 _ I1 q1) fun iv s2 ⟨y,H2,I2,r2,q2⟩=>?_))
 refine wpAny_bind (wpAny_standAt (wpAny_bind (wpAny_holding (thn (hs pins s2 σ H2 x y v ov iv u _ I2 r1 r2 r q2) fun _ s3 ⟨H3,I3,q3⟩=>?_))))
 exact wpAny_release ⟨σ,H3,I3,q3⟩
def tAsg (te:TE) (g:TG):TS:=fun D σ H=>te σ H fun x H1=>g x σ H1 D.nx
theorem ps_asg {tg e:Expr} {te:TE} {g:TG} (he:PE X e te) (hg:PG X tg g) (hs:swapsWithSole [tg] e pos.line X.env=pure false:=by rfl) (hw:swappedStores [tg] e X.env=pure none:=by rfl)
  (h1:(assignEach [tg] X.env).map (·.2)=[assign tg X.env]:=by rfl):PS X (.Assign [tg] e pos) (tAsg te g):=by
 intro pins s σ H D I h
 refine wpAny_Assign_stores (thn (he pins s σ H _ I h) fun v s1 ⟨x,H1,I1,r1,q1⟩=>?_) hs hw
 rw[h1]
 exact thn (hg pins s1 σ H1 x v _ I1 r1 q1) fun _ s2 q=>q
theorem ps_set {i:Nat} {x:Str} {e:Expr} {te:TE} {pos':Pos} (hN:X.N.Nodup) (hi:X.N[i]?=some x) (hx:Loc X.env.scope x) (he:PE X e te) (hs:swapsWith e (some (.Name x pos')) pos.line X.env=pure false:=by rfl) (hf:X.fn x=true∨X.env.scope.names.lookup x=some .local:=by first | exact .inl rfl | exact .inr rfl | assumption) :
  PS X (.Assign [.Name x pos'] e pos) (tAsg te (gName i)):=by
 intro pins s σ H D I h
 refine wpAny_Assign_Name (thn (he pins s σ H _ I h) fun v s1 ⟨y,H1,I1,r1,q1⟩=>?_) hs
 exact f6 I1 hN hi hx r1 (fun s2 I2=>⟨_,H1,I2,q1⟩) hf
def tPar (i j:Nat) (ta:TA):TS:=fun D σ H=>ta σ H fun vs H1=>∃v w,vs=[v,w]∧D.nx ((σ.set i (some v)).set j (some w)) H1
theorem ps_par {i j:Nat} {x y:Str} {a b:Expr} {ta:TA} {px py pt:Pos} {kt k2 pt2} (hc:X.calm=true) (hN:X.N.Nodup) (hi:X.N[i]?=some x) (hj:X.N[j]?=some y) (hij:i≠j)
  (hx:X.env.scope.names.lookup x=some .local) (hy:X.env.scope.names.lookup y=some .local) (ha:PA X [a,b] ta)
  (hw:swappedStores [.Tuple [.Name x px,.Name y py] kt pt] (.Tuple [a,b] k2 pt2) X.env=pure (some [x,y]))
  (hs:swapsWithSole [.Tuple [.Name x px,.Name y py] kt pt] (.Tuple [a,b] k2 pt2) pos.line X.env=pure false:=by rfl) :
  PS X (.Assign [.Tuple [.Name x px,.Name y py] kt pt] (.Tuple [a,b] k2 pt2) pos) (tPar i j ta):=by
 intro pins s σ H D I h
 rw[exec_Assign_arm]
 refine wpAny_bind (wpAny_standAt ?_)
 rw[hs]
 refine wpAny_bind (wpAny_pure ?_)
 rw[if_neg (by decide)]
 refine wpAny_bind (Tuple_ (thn (ha _ pins s σ H _ I h) fun us s1 ⟨vs,H1,I1,r1,q1⟩=>?_))
 obtain ⟨v,w,e1,q1⟩:=q1
 subst e1
 obtain ⟨u1,u2,rfl,rv,rw'⟩:∃u1 u2,us=[u1,u2]∧RelV v u1∧RelV w u2:=by
  cases r1 with
  | cons p q =>
   cases q with
   | cons p' q' =>
    cases q'
    exact ⟨_,_,rfl,p,p'⟩
 refine wpAny_newObj_type ?_ (by show 2≤sizeLine;decide)
 have I2:Inv X pins σ H1 { s1 with heap:=s1.heap.push { cls:=.type "tuple",data:=.seq [u1,u2].toArray}}:=I1.kept (t':=s1.toks) fun b o e=>Heap.get?_push_of_some _ e
 rw[hw]
 refine wpAny_bind (wpAny_pure ?_)
 show wpAny (model X.prog X.w) X.A (do rule "assign.swapped-stores";let items ←unpackItems (.ref s1.heap.objs.size) 2 none;assignInOrder [fun v=>bindName X.env y v,fun v=>bindName X.env x v] items.reverse;pure Flow.next) _ _ _
 refine wpAny_bind (wpAny_rule (wpAny_bind (unpackItems_tuple (items:=#[u1,u2]) (I.ok.hd hc) (IsTup.new s1.heap _) fun h' hx'=>?_)))
 have I3:=I2.kept (h':=h') (t':=s1.toks) fun b o e=>hx' b o (Nat.ne_of_lt (Heap.lt_size e)) e
 show wpAny _ _ (assignInOrder [fun v=>bindName X.env y v,fun v=>bindName X.env x v] [u2,u1] >>= fun _=>pure Flow.next) _ _ _
 refine wpAny_bind (assignInOrder_cons (wpAny_bindName (f6 I3 hN hj (.inl hy) rw' (fun s2 I4=>?_) (.inr hy))))
 refine assignInOrder_cons (wpAny_bindName (f6 I4 hN hi (.inl hx) rv (fun s3 I5=>assignInOrder_nil (wpAny_pure ?_)) (.inr hx)))
 rw[List.set_comm _ _ (Ne.symm hij)] at I5
 exact ⟨_,H1,I5,q1⟩
end
section
variable {X:Cx} {pos:Pos}
def tWhile (c:TT) (tb:TS):TS:=fun D σ H=>∃W:Nat→St→Hp→Prop,(∃m,W m σ H)∧∀m σ H,W m σ H →
 c σ H fun b H1=>if b=true then ∃N:St→Hp→Prop,(∀σ' H',N σ' H'→∃m',m'<m∧W m' σ' H')∧tb { D with nx:=N,ct:=N,bk:=D.nx} σ H1 else D.nx σ H1
theorem rL {c:Expr} {body:List Stmt} {tc:TT} {tb:TS} (hp:PassesOwn (model X.prog X.w) X.A X.env X.xe) (hc:PT X c tc) (hb:PSs X body tb):PS X (.While c body [] pos) (tWhile tc tb):=by
 intro pins s σ H D I h
 obtain ⟨W,⟨m0,w0⟩,turn⟩:=h
 refine wpAny_While (codeAny_whileLoop (fun n s'=>∃σ' H',Inv X pins σ' H' s'∧W n σ' H') ?_ m0 ⟨σ,H,I,w0⟩)
 rintro n s1 ⟨σ1,H1,I1,w1⟩
 refine wpAny_passesOwn hp (thn (hc pins s1 σ1 H1 _ I1 (turn n σ1 H1 w1)) fun b s2 ⟨H2,I2,q2⟩=>?_)
 cases b with
 | true =>
  obtain ⟨N,hN,q2⟩:=q2
  rw[if_pos rfl]
  refine wpAny_passesOwn hp (thn (hb pins s2 σ1 H2 _ I2 q2) fun f s3 q3=>?_)
  cases f with
  | next =>
   obtain ⟨σ3,H3,I3,n3⟩:=q3
   obtain ⟨m',hm,w3⟩:=hN σ3 H3 n3
   exact ⟨m',hm,σ3,H3,I3,w3⟩
  | cont =>
   obtain ⟨σ3,H3,I3,n3⟩:=q3
   obtain ⟨m',hm,w3⟩:=hN σ3 H3 n3
   exact ⟨m',hm,σ3,H3,I3,w3⟩
  | brk=>exact q3
  | ret v=>exact q3
 | false =>
  rw[if_neg Bool.false_ne_true]
  exact wpAny_execs_nil ⟨σ1,H2,I2,q2⟩
end
structure It where
 go:Nat→Hp→Prop
 yld:Nat→Hp→V→Hp→Prop
 stop:Nat→Hp→Prop
def FpOk (X:Cx) (pins:List (Addr × Obj)) (H:Hp) (b:Addr):Prop :=
 H b=none∧b≠X.env.locals∧b∉X.fs∧(b∈X.ex∨X.s₀.heap.objs.size≤b)∧(∀x c,X.env.cells.lookup x=some c→c≠b)∧∀p∈X.pn++pins,p.1≠b
theorem Inv.fpOk {X:Cx} {pins:List (Addr × Obj)} {σ:St} {H H':Hp} {s:Shared} {b:Addr} (I:Inv X pins σ H s) (hb:s.heap.objs.size≤b) (hn:H' b=none):FpOk X pins H' b:=by
 refine ⟨hn,Nat.ne_of_gt (Nat.lt_of_lt_of_le I.lt hb),I.nofs hb,.inr (Nat.le_trans I.sz hb),fun x c e z=>?_,fun p hp z=>?_⟩
 ·obtain ⟨v,q⟩:=I.cell x c e
  exact absurd (Nat.lt_of_lt_of_le q.lt (by rw[z];exact hb)) (Nat.lt_irrefl _)
 ·exact absurd (Nat.lt_of_lt_of_le (Heap.lt_size (I.pin p hp).1) (by rw[z];exact hb)) (Nat.lt_irrefl _)
structure Turn (P:Program) (w:World) (K:PySem.W.Frag) (tg:Expr) (J:It) (fp:List Addr) (it:Addr) (tn:Nat→Heap→Prop):Prop where
 mem:it∈fp
 obj:∀i h,tn i h→∀b∈fp,∃o,h.get? b=some o∧∀v,o.data≠.cell v
 keep:∀i h h',tn i h→(∀b∈fp,∀o,h.get? b=some o→h'.get? b=some o)→tn i h'
 item:∀(X:Cx),X.prog=P→X.w=w→X.K=K→X.calm=true→∀(i:Nat) (pins:List (Addr × Obj)) (s:Shared) (σ:St) (H:Hp) (E:Value→Shared→Prop),Inv X pins σ H s→(∀b∈fp,FpOk X pins H b)→tn i s.heap→J.go i H →
  wpAny (model P w) X.A (pyNext (.ref it)) (fun r s1=>∃u,r=some u ∧
   wpAny (model P w) X.A (letOwnedTupleGo tg (.ref it) u) (fun _ s2=>∃x H',Inv X pins σ H' s2∧RelV x u∧J.yld i H x H'∧tn (i+1) s2.heap∧∀b∈fp,H' b=none) E s1) E s
 done:∀(X:Cx),X.prog=P→X.w=w→X.K=K→X.calm=true→∀(i:Nat) (pins:List (Addr × Obj)) (s:Shared) (σ:St) (H:Hp) (E:Value→Shared→Prop),Inv X pins σ H s→(∀b∈fp,FpOk X pins H b)→tn i s.heap→J.stop i H →
  wpAny (model P w) X.A (pyNext (.ref it)) (fun r s1=>r=none∧Inv X pins σ H s1) E s
 self:∀(A:Around) (i:Nat) (s:Shared) (Q:Value→Shared→Prop) (E:Value→Shared→Prop),tn i s.heap→Q (.ref it) s→wpAny (model P w) A (pyIter (.ref it)) Q E s
abbrev TI:=St→Hp→(It→Hp→Prop)→Prop
def PIE (X:Cx) (pins:List (Addr × Obj)) (σ:St) (tg:Expr) (R:It→Hp→Prop) (itv:Value) (s2:Shared):Prop :=
 ∃(it:Addr) (fp:List Addr) (tn:Nat→Heap→Prop) (J:It) (H':Hp),itv=.ref it∧Inv X pins σ H' s2∧Turn X.prog X.w X.K tg J fp it tn∧tn 0 s2.heap∧(∀b∈fp,FpOk X pins H' b)∧R J H'
def PI (X:Cx) (tg iter:Expr) (wi:TI):Prop :=
 ∀(pins:List (Addr × Obj)) (s:Shared) (σ:St) (H:Hp) (R:It→Hp→Prop),Inv X pins σ H s→wi σ H R →
  wpAny (model X.prog X.w) X.A (eval iter X.env) (fun v s1=>wpAny (model X.prog X.w) X.A (pyIter v) (PIE X pins σ tg R) X.xe s1) X.xe s
theorem oR {M:Model} {A:Around} {E:Value→Shared→Prop} {s:Shared} {tg:Expr} {it:Addr} {u:Value} {o:Obj} {n:String} {vs:Array Value} {Q:Unit→Shared→Prop} (ho:s.heap.get? it=some o) (hc:o.cls=.type n) (hd:o.data=.fields vs)
  (hn:["enumerate","zip","dict_itemiterator","dict_reverseitemiterator","odict_iterator","itertools.zip_longest","itertools.pairwise"].contains n=false) (hQ:Q () s):wpAny M A (letOwnedTupleGo tg (.ref it) u) Q E s:=by
 unfold letOwnedTupleGo
 cases tg <;> first
  | exact wpAny_pure hQ
  | (cases u <;> first
    | exact wpAny_pure hQ
    | (refine wpAny_bind (wpAny_load ho ?_)
       rw[hc,hd]
       show wpAny M A (if (["enumerate","zip","dict_itemiterator","dict_reverseitemiterator","odict_iterator","itertools.zip_longest","itertools.pairwise"].contains n && vs[0]? == some (rawInt _))=true then _ else _) Q E s
       rw[if_neg (by intro h;rw[hn,Bool.false_and] at h;cases h)]
       exact wpAny_pure hQ))
def Itl (K:PySem.W.Frag) (a:Addr):It :=
 ⟨fun i H=>∃xs x,SqL K H a xs∧xs[i]?=some x,fun i H x H'=>H'=H∧∀xs,SqL K H a xs→xs[i]?=some x,fun i H=>∃xs,SqL K H a xs∧xs.length≤i⟩
def Itt (K:PySem.W.Frag) (a:Addr):It :=
 ⟨fun i H=>∃xs x,SqT K H a xs∧xs[i]?=some x,fun i H x H'=>H'=H∧∀xs,SqT K H a xs→xs[i]?=some x,fun i H=>∃xs,SqT K H a xs∧xs.length≤i⟩
def Itr (lo:Int) (n:Nat):It:=⟨fun i _=>i<n,fun i H x H'=>H'=H∧x=.int (lo+i),fun i _=>n≤i⟩
theorem pY {P:Program} {w:World} {K:PySem.W.Frag} {tg:Expr} (a it:Addr):Turn P w K tg (Itl K a) [it] it (fun i h=>h.IsListIter it a i) where
 mem:=by simp
 obj:=fun i h st b hb=>by
  have e:b=it:=by simpa using hb
  subst e
  obtain ⟨o,e,c,d⟩:=st
  exact ⟨o,e,fun v z=>by rw[d] at z;cases z⟩
 keep:=fun i h h' st k=>st.at fun o e=>k it (by simp) o e
 item:=by
  intro X hP hw hK hc i pins s σ H E I hf st hg
  subst hP hw hK
  obtain ⟨xs,x,hq,hx⟩:=hg
  obtain ⟨its,rv,p,hz⟩:=I.list hq
  obtain ⟨u,hu,ru⟩:=rv.get hx
  obtain ⟨f0,f1,f2,f3,f4,f5⟩:=hf it (by simp)
  refine wpAny_pyNext_list_item st p.isList (x:=u) (by simpa using hu) fun h' st' sb=>?_
  have I1:Inv X pins σ H { s with heap:=h'}:=I.turned (t':=s.toks) (fun b o hb e=>(sb.2 b hb).trans e) f0 f1 f3 f4 f5
  obtain ⟨o,e,c,d⟩:=id st'
  exact ⟨u,rfl,oR (s:={ s with heap:=h'}) e c d (by decide) ⟨x,H,I1,ru,⟨rfl,fun ys hy=>by rw[I.list_inj hy hq];exact hx⟩,st',fun b hb=>(hf b hb).1⟩⟩
 done:=by
  intro X hP hw hK hc i pins s σ H E I hf st hg
  subst hP hw hK
  obtain ⟨xs,hq,hx⟩:=hg
  obtain ⟨its,rv,p,hz⟩:=I.list hq
  obtain ⟨f0,f1,f2,f3,f4,f5⟩:=hf it (by simp)
  have hl:=rv.length
  exact wpAny_pyNext_list_end (I.ok.hd hc) st p.isList (by simp;omega) fun h' eb=>⟨rfl,I.turned (t':=s.toks) (fun b o hb e=>eb b o hb e) f0 f1 f3 f4 f5⟩
 self:=fun _ _ _ _ _ st h=>wpAny_pyIter_listiter st h
theorem oy {P:Program} {w:World} {K:PySem.W.Frag} {tg:Expr} (a it:Addr):Turn P w K tg (Itt K a) [it] it (fun i h=>h.IsTupleIter it a i) where
 mem:=by simp
 obj:=fun i h st b hb=>by
  have e:b=it:=by simpa using hb
  subst e
  obtain ⟨o,e,c,d⟩:=st
  exact ⟨o,e,fun v z=>by rw[d] at z;cases z⟩
 keep:=fun i h h' st k=>st.at fun o e=>k it (by simp) o e
 item:=by
  intro X hP hw hK hc i pins s σ H E I hf st hg
  subst hP hw hK
  obtain ⟨xs,x,hq,hx⟩:=hg
  obtain ⟨its,rv,p,hz⟩:=I.tuple hq
  obtain ⟨u,hu,ru⟩:=rv.get hx
  obtain ⟨f0,f1,f2,f3,f4,f5⟩:=hf it (by simp)
  refine wpAny_pyNext_tuple_item st (show s.heap.IsTuple a its.toArray from p) (x:=u) (by simpa using hu) fun h' st' sb=>?_
  have I1:Inv X pins σ H { s with heap:=h'}:=I.turned (t':=s.toks) (fun b o hb e=>(sb.2 b hb).trans e) f0 f1 f3 f4 f5
  obtain ⟨o,e,c,d⟩:=id st'
  exact ⟨u,rfl,oR (s:={ s with heap:=h'}) e c d (by decide) ⟨x,H,I1,ru,⟨rfl,fun ys hy=>by rw[I.tuple_inj hy hq];exact hx⟩,st',fun b hb=>(hf b hb).1⟩⟩
 done:=by
  intro X hP hw hK hc i pins s σ H E I hf st hg
  subst hP hw hK
  obtain ⟨xs,hq,hx⟩:=hg
  obtain ⟨its,rv,p,hz⟩:=I.tuple hq
  obtain ⟨f0,f1,f2,f3,f4,f5⟩:=hf it (by simp)
  have hl:=rv.length
  exact wpAny_pyNext_tuple_end (I.ok.hd hc) st (show s.heap.IsTuple a its.toArray from p) (by simp;omega) fun h' eb=>⟨rfl,I.turned (t':=s.toks) (fun b o hb e=>eb b o hb e) f0 f1 f3 f4 f5⟩
 self:=fun _ _ _ _ _ st h=>wpAny_pyIter_tupleiter st h
theorem oj {P:Program} {w:World} {K:PySem.W.Frag} {tg:Expr} (it:Addr) (lo:Int) (n:Nat):Turn P w K tg (Itr lo n) [it] it (fun i h=>IsRangeIter h it (lo+(i:Nat) * 1) ((n:Int) - (i:Nat)) 1) where
 mem:=by simp
 obj:=fun i h st b hb=>by
  have e:b=it:=by simpa using hb
  subst e
  exact ⟨_,st,fun v z=>by
   have z':Data.fields _=Data.cell v:=z
   cases z'⟩
 keep:=fun i h h' st k=>k it (by simp) _ st
 item:=by
  intro X hP hw hK hc i pins s σ H E I hf st hg
  subst hP hw hK
  obtain ⟨f0,f1,f2,f3,f4,f5⟩:=hf it (by simp)
  have W:=Walks.range (prog:=X.prog) (w:=X.w) (I.ok.hd hc) it lo 1 n
  refine W.item i s _ _ hg st fun v h' tk hv st' kk=>?_
  obtain ⟨t,rfl⟩:=hv
  have I1:Inv X pins σ H { s with heap:=h',toks:=tk}:=I.turned (fun b o hb e=>kk b o (by simpa using hb) e) f0 f1 f3 f4 f5
  refine ⟨_,rfl,oR (s:={ s with heap:=h',toks:=tk}) (n:="range_iterator") st' rfl rfl (by decide) ⟨.int (lo+i),H,I1,⟨t,?_⟩,⟨rfl,rfl⟩,st',fun b hb=>(hf b hb).1⟩⟩
  rw[Int.mul_one]
 done:=by
  intro X hP hw hK hc i pins s σ H E I hf st hg
  subst hP hw hK
  obtain ⟨f0,f1,f2,f3,f4,f5⟩:=hf it (by simp)
  exact wpAny_pyNext_range_end (I.ok.hd hc) st (by have:n≤i:=hg;omega) fun h' eb=>⟨rfl,I.turned (t':=s.toks) (fun b o hb e=>eb b o hb e) f0 f1 f3 f4 f5⟩
 self:=fun _ _ _ _ _ st h=>wpAny_pyIter_rangeiter st h
section
variable {X:Cx} {tg:Expr}
def iList (K:PySem.W.Frag) (tl:TE):TI:=fun σ H R=>tl σ H fun x H1=>∃a,x=.ref a∧(∃xs,SqL K H1 a xs)∧R (Itl K a) H1
def iTup (K:PySem.W.Frag) (tl:TE):TI:=fun σ H R=>tl σ H fun x H1=>∃a,x=.ref a∧(∃xs,SqT K H1 a xs)∧R (Itt K a) H1
theorem pi_list {l:Expr} {tl:TE} (hl:PE X l tl):PI X tg l (iList X.K tl):=by
 intro pins s σ H R I h
 refine thn (hl pins s σ H _ I h) fun v s1 ⟨x,H1,I1,r1,q1⟩=>?_
 obtain ⟨a,e,⟨xs,hq⟩,q⟩:=q1
 subst e
 cases r1
 obtain ⟨its,rv,p,hz⟩:=I1.list hq
 refine wpAny_pyIter_list p.isList ?_
 refine ⟨s1.heap.objs.size,[s1.heap.objs.size],_,_,H1,rfl,I1.kept (t':=s1.toks) fun b o e=>Heap.get?_push_of_some _ e,pY a _,⟨_,Heap.get?_push_size _ rfl,rfl,rfl⟩,fun b hb=>?_,q⟩
 have e:b=s1.heap.objs.size:=by simpa using hb
 subst e
 exact I1.fpOk (Nat.le_refl _) (I1.hok.fresh (Nat.le_refl _))
theorem pi_tup {l:Expr} {tl:TE} (hl:PE X l tl):PI X tg l (iTup X.K tl):=by
 intro pins s σ H R I h
 refine thn (hl pins s σ H _ I h) fun v s1 ⟨x,H1,I1,r1,q1⟩=>?_
 obtain ⟨a,e,⟨xs,hq⟩,q⟩:=q1
 subst e
 cases r1
 obtain ⟨its,rv,p,hz⟩:=I1.tuple hq
 refine wpAny_pyIter_tuple (show s1.heap.IsTuple a its.toArray from p) ?_
 refine ⟨s1.heap.objs.size,[s1.heap.objs.size],_,_,H1,rfl,I1.kept (t':=s1.toks) fun b o e=>Heap.get?_push_of_some _ e,oy a _,⟨_,Heap.get?_push_size _ rfl,rfl,rfl⟩,fun b hb=>?_,q⟩
 have e:b=s1.heap.objs.size:=by simpa using hb
 subst e
 exact I1.fpOk (Nat.le_refl _) (I1.hok.fresh (Nat.le_refl _))
theorem rS {pins:List (Addr × Obj)} {σ:St} {H:Hp} {s:Shared} {R:It→Hp→Prop} {E:Value→Shared→Prop} {lo hi:Int} {t u v:Tok} {tk:Nat} (I:Inv X pins σ H s) (h1:-(2 ^ 62)≤lo) (h2:lo<2 ^ 62) (h3:-(2 ^ 62)≤hi) (h4:hi<2 ^ 62)
  (q:R (Itr lo (hi - lo).toNat) H):wpAny (model X.prog X.w) X.A (pyIter (.ref s.heap.objs.size)) (PIE X pins σ tg R) E { s with heap:=s.heap.push { cls:=.type "range",data:=.fields #[.int lo t,.int hi u,.int 1 v]},toks:=tk}:=by
 refine wpAny_pyIter_range (IsRange.new ..) (small_one h1 h2 h3 h4) ?_
 have I1:Inv X pins σ H { s with heap:=s.heap.push { cls:=.type "range",data:=.fields #[.int lo t,.int hi u,.int 1 v]},toks:=tk}:=I.kept fun b o e=>Heap.get?_push_of_some _ e
 refine ⟨(s.heap.push { cls:=.type "range",data:=.fields #[.int lo t,.int hi u,.int 1 v]}).objs.size,[(s.heap.push { cls:=.type "range",data:=.fields #[.int lo t,.int hi u,.int 1 v]}).objs.size],_,_,H,rfl,
  I1.kept (t':=tk) fun b o e=>Heap.get?_push_of_some _ e,oj _ lo (hi - lo).toNat,?_,fun b hb=>?_,q⟩
 ·have e1:lo+((0:Nat):Int) * 1=lo:=by simp
  have e2:(((hi - lo).toNat:Nat):Int) - ((0:Nat):Int)=Builtin.Range.rangeSize lo hi 1:=by rw[rangeSize_one];split <;> omega
  show IsRangeIter _ _ (lo+((0:Nat):Int) * 1) ((((hi - lo).toNat:Nat):Int) - ((0:Nat):Int)) 1
  rw[e1,e2]
  exact Heap.get?_push_size _ rfl
 ·have e:b=(s.heap.push { cls:=.type "range",data:=.fields #[.int lo t,.int hi u,.int 1 v]}).objs.size:=by simpa using hb
  subst e
  exact I1.fpOk (Nat.le_refl _) (I1.hok.fresh (Nat.le_refl _))
def iRng1 (ta:TA):TI:=fun σ H R=>ta σ H fun vs H1=>∃j:Int,vs=[.int j] ∧ -(2 ^ 62)≤j∧j<2 ^ 62∧R (Itr 0 j.toNat) H1
theorem qq {a:Expr} {ta:TA} {p pos:Pos} (hg:Gl X "range") (hm:X.mg "range"=none) (ha:PA X [a] ta) (hs:starEach [a] X.env=[(false,eval a X.env)]:=by rfl):PI X tg (.Call (.Name "range" p) [a] [] pos) (iRng1 ta):=by
 intro pins s σ H R I h
 refine Call_ (gQ I hg hm boot_range (PyProof.Rows.callWith_type1 (thn (ha pos pins s σ H _ I h) fun us s1 ⟨vs,H1,I1,r1,q1⟩=>?_) hs rfl))
 obtain ⟨j,e,q1,q2,q⟩:=q1
 subst e
 cases r1 with
 | cons r rr =>
  cases rr
  obtain ⟨t,rfl⟩:=r
  exact call_range_1 (rS I1 (by omega) (by omega) q1 q2 (by simpa using q))
def tFor (wi:TI) (g:TG) (tb:TS):TS:=fun D σ H=>wi σ H fun J H1=>∃W:Nat→Nat→St→Hp→Prop,(∃m,W 0 m σ H1)∧∀i m σ H,W i m σ H →
 (J.stop i H∧D.nx σ H)∨(J.go i H∧∃N:St→Hp→Prop,(∀σ' H',N σ' H'→∃m',m'<m∧W (i+1) m' σ' H')∧∀x H',J.yld i H x H'→g x σ H' fun σ2 H2=>tb { D with nx:=N,ct:=N,bk:=D.nx} σ2 H2)
def gZ (fp:List Addr) (h:Heap):List (Addr × Obj):=fp.filterMap fun b=>(h.get? b).map fun o=>(b,o)
theorem ec {fp:List Addr} {h:Heap} {b:Addr} {o:Obj} (hb:b∈fp) (e:h.get? b=some o):(b,o)∈gZ fp h:=List.mem_filterMap.mpr ⟨b,hb,by rw[e];rfl⟩
theorem ql {fp:List Addr} {h:Heap} {p:Addr × Obj} (hp:p∈gZ fp h):p.1∈fp∧h.get? p.1=some p.2:=by
 obtain ⟨b,hb,e⟩:=List.mem_filterMap.mp hp
 cases q:h.get? b with
 | none=>rw[q] at e;cases e
 | some o =>
  rw[q] at e
  have e':(b,o)=p:=Option.some.inj e
  subst e'
  exact ⟨hb,q⟩
theorem Inv.pinned {pins:List (Addr × Obj)} {σ:St} {H:Hp} {s:Shared} {fp:List Addr} (I:Inv X pins σ H s) (hf:∀b∈fp,FpOk X pins H b) (ho:∀b∈fp,∃o,s.heap.get? b=some o∧∀v,o.data≠.cell v):Inv X (pins++gZ fp s.heap) σ H s :=
 I.pins_of fun p hp=>(List.mem_append.mp hp).elim (fun z=>I.pin p (List.mem_append_right _ z)) fun z=>by
  obtain ⟨hb,e⟩:=ql z
  obtain ⟨f0,f1,f2,_⟩:=hf p.1 hb
  obtain ⟨o,e',d⟩:=ho p.1 hb
  rw[e] at e';cases e'
  exact ⟨e,f0,f1,f2,d⟩
theorem Inv.unpinned {pins pl:List (Addr × Obj)} {σ:St} {H:Hp} {s:Shared} (I:Inv X (pins++pl) σ H s):Inv X pins σ H s:=I.pins_of fun p hp=>I.pin p (List.mem_append_right _ (List.mem_append_left _ hp))
theorem ps_for {iter:Expr} {body:List Stmt} {wi:TI} {g:TG} {tb:TS} {pos:Pos} (hp:PassesOwn (model X.prog X.w) X.A X.env X.xe) (hc:X.calm=true) (hi:PI X tg iter wi) (hg:PG X tg g) (hb:PSs X body tb)
  (hs:∀x,foldedSetIterable iter X.env x=pure x:=by intro _;rfl):PS X (.For tg iter body [] pos) (tFor wi g tb):=by
 intro pins s σ H D I h
 refine wpAny_For (thn (hi pins s σ H _ I h) fun v s1 h1=>thn h1 fun itv s2 h2=>?_) hs
 obtain ⟨it,fp,tn,J,H2,e,I2,T,st2,f2,W,⟨m0,w0⟩,turn⟩:=h2
 subst e
 have stat:∀{H':Hp},(∀b∈fp,H' b=none)→∀b∈fp,FpOk X pins H' b:=fun hn b hb=>⟨hn b hb,(f2 b hb).2⟩
 refine codeAny_forLoop_any (fun n s'=>∃i σ' H',Inv X pins σ' H' s'∧tn i s'.heap∧(∀b∈fp,H' b=none)∧W i n σ' H') ?_ m0 ⟨0,σ,H2,I2,st2,fun b hb=>(f2 b hb).1,w0⟩
 rintro n s3 ⟨i,σ3,H3,I3,st3,fr3,w3⟩
 rcases turn i n σ3 H3 w3 with ⟨stop,qn⟩|⟨go,N,hN,step⟩
 ·refine wpAny_passesOwn hp (thn (T.done X rfl rfl rfl hc i pins s3 σ3 H3 X.xe I3 (stat fr3) st3 stop) fun r s4 ⟨hr,I4⟩=>?_)
  subst hr
  exact wpAny_execs_nil ⟨σ3,H3,I4,qn⟩
 ·refine wpAny_passesOwn hp (thn (T.item X rfl rfl rfl hc i pins s3 σ3 H3 X.xe I3 (stat fr3) st3 go) fun r s4 ⟨u,hr,h4⟩=>?_)
  subst hr
  refine wpAny_passesOwn hp (thn h4 fun _ s5 ⟨x,H5,I5,r5,y5,st5,fr5⟩=>?_)
  have I5':=I5.pinned (stat fr5) (T.obj _ _ st5)
  refine wpAny_passesOwn hp (thn (hg _ s5 σ3 H5 x u _ I5' r5 (step x H5 y5)) fun _ s6 ⟨σ6,H6,I6,q6⟩=>?_)
  refine wpAny_passesOwn hp (thn (hb _ s6 σ6 H6 _ I6 q6) fun f s7 q7=>?_)
  have again:∀{σ7:St} {H7:Hp},Inv X (pins++gZ fp s5.heap) σ7 H7 s7→N σ7 H7→∃m,m<n∧∃i σ' H',Inv X pins σ' H' s7∧tn i s7.heap∧(∀b∈fp,H' b=none)∧W i m σ' H':=fun {σ7 H7} I7 n7=>by
   obtain ⟨m',hm,w7⟩:=hN σ7 H7 n7
   refine ⟨m',hm,i+1,σ7,H7,I7.unpinned,T.keep _ _ _ st5 fun b hb o e=>(I7.pin (b,o) (List.mem_append_right _ (List.mem_append_right _ (ec hb e)))).1,fun b hb=>?_,w7⟩
   obtain ⟨o,e,d⟩:=T.obj _ _ st5 b hb
   exact (I7.pin (b,o) (List.mem_append_right _ (List.mem_append_right _ (ec hb e)))).2.1
  cases f with
  | next=>obtain ⟨σ7,H7,I7,n7⟩:=q7;exact again I7 n7
  | cont=>obtain ⟨σ7,H7,I7,n7⟩:=q7;exact again I7 n7
  | brk=>obtain ⟨σ7,H7,I7,q7⟩:=q7;exact ⟨σ7,H7,I7.unpinned,q7⟩
  | ret v=>obtain ⟨x7,σ7,H7,I7,r7,q7⟩:=q7;exact ⟨x7,σ7,H7,I7.unpinned,r7,q7⟩
end
abbrev R2:=V→V→Hp→VK→Prop
def OpR (X:Cx) (f:Value→Value→Sem Value) (r:R2):Prop :=
 ∀(pins:List (Addr × Obj)) (s:Shared) (σ:St) (H:Hp) (x y:V) (v u:Value) (Q:VK),Inv X pins σ H s→RelV x v→RelV y u→r x y H Q →
  wpAny (model X.prog X.w) X.A (f v u) (EP X pins σ Q) X.xe s
def UnR (X:Cx) (f:Value→Sem Value) (r:V→Hp→VK→Prop):Prop :=
 ∀(pins:List (Addr × Obj)) (s:Shared) (σ:St) (H:Hp) (x:V) (v:Value) (Q:VK),Inv X pins σ H s→RelV x v→r x H Q →
  wpAny (model X.prog X.w) X.A (f v) (EP X pins σ Q) X.xe s
def cW (X:Cx) (f:Value) (r:List V→Hp→VK→Prop):Prop :=
 ∀(pins:List (Addr × Obj)) (s:Shared) (σ:St) (H:Hp) (xs:List V) (us:List Value) (Q:VK),Inv X pins σ H s→Vals xs us→r xs H Q →
  wpAny (model X.prog X.w) X.A (call f us) (EP X pins σ Q) X.xe s
def tOp (r:R2) (ta tb:TE):TE:=fun σ H Q=>ta σ H fun x H1=>tb σ H1 fun y H2=>r x y H2 Q
def tUn (r:V→Hp→VK→Prop) (ta:TE):TE:=fun σ H Q=>ta σ H fun x H1=>r x H1 Q
def rI (C:Int→Int→Prop) (g:Int→Int→V):R2:=fun x y H Q=>∃i j,x=.int i∧y=.int j∧C i j∧Q (g i j) H
def rI0 (g:Int→Int→V):R2:=fun x y H Q=>∃i j,x=.int i∧y=.int j∧Q (g i j) H
def rU (g:Int→V):V→Hp→VK→Prop:=fun x H Q=>∃i,x=.int i∧Q (g i) H
section
variable {X:Cx} {a b c:Expr} {ta tb tc:TE} {pos:Pos}
theorem binT (ha:PE X a ta) (hb:PE X b tb) {pins:List (Addr × Obj)} {s:Shared} {σ:St} {H:Hp} {R:V→V→Hp→Prop} (I:Inv X pins σ H s)
  (h:ta σ H fun x H1=>tb σ H1 fun y H2=>R x y H2) {Q:Value→Shared→Prop} {f:Value→Value→Sem Value}
  (hf:∀v u s2 x y H2,Inv X pins σ H2 s2→RelV x v→RelV y u→R x y H2→wpAny (model X.prog X.w) X.A (f v u) Q X.xe s2) :
  wpAny (model X.prog X.w) X.A (eval a X.env) (fun v s₁=>wpAny (model X.prog X.w) X.A (eval b X.env) (fun u s₂=>wpAny (model X.prog X.w) X.A (f v u) Q X.xe s₂) X.xe s₁) X.xe s:=by
 refine thn (ha pins s σ H _ I h) fun v s1 ⟨x,H1,I1,r1,q1⟩=>?_
 refine thn (hb pins s1 σ H1 _ I1 q1) fun u s2 ⟨y,H2,I2,r2,q2⟩=>?_
 exact hf v u s2 x y H2 I2 r1 r2 q2
theorem pe_op {op:Operator} {r:R2} (ho:OpR X (binaryOp op) r) (ha:PE X a ta) (hb:PE X b tb):PE X (.BinOp a op b pos) (tOp r ta tb):=by
 intro pins s σ H Q I h
 exact wpAny_BinOp (binT ha hb I h fun v u s2 x y H2 I2 rx ry q=>ho pins s2 σ H2 x y v u Q I2 rx ry q)
theorem pe_un {op:UnaryOp} {r:V→Hp→VK→Prop} (ho:UnR X (unaryOp op) r) (ha:PE X a ta):PE X (.UnaryOp op a pos) (tUn r ta):=by
 intro pins s σ H Q I h
 exact UnaryOp_ (thn (ha pins s σ H _ I h) fun v s1 ⟨x,H1,I1,r1,q1⟩=>ho pins s1 σ H1 x v Q I1 r1 q1)
theorem opI {f:Value→Value→Sem Value} {C:Int→Int→Prop} {g:Int→Int→Int}
  (rule:∀(i j:Int) (t u:Tok) (s:Shared) (Q:Value→Shared→Prop) (E:Value→Shared→Prop),C i j→Q (.int (g i j) s.toks) { s with toks:=s.toks+1}→wpAny (model X.prog X.w) X.A (f (.int i t) (.int j u)) Q E s) :
  OpR X f (rI C fun i j=>.int (g i j)):=by
 intro pins s σ H x y v u Q I rx ry h
 obtain ⟨i,j,rfl,rfl,hc,q⟩:=h
 obtain ⟨t,rfl⟩:=rx
 obtain ⟨t',rfl⟩:=ry
 exact rule i j t t' s _ _ hc ⟨.int (g i j),H,I.tok _,⟨_,rfl⟩,q⟩
theorem opI0 {f:Value→Value→Sem Value} {g:Int→Int→Int}
  (rule:∀(i j:Int) (t u:Tok) (s:Shared) (Q:Value→Shared→Prop) (E:Value→Shared→Prop),Q (.int (g i j) s.toks) { s with toks:=s.toks+1}→wpAny (model X.prog X.w) X.A (f (.int i t) (.int j u)) Q E s) :
  OpR X f (rI0 fun i j=>.int (g i j)):=by
 intro pins s σ H x y v u Q I rx ry h
 obtain ⟨i,j,rfl,rfl,q⟩:=h
 obtain ⟨t,rfl⟩:=rx
 obtain ⟨t',rfl⟩:=ry
 exact rule i j t t' s _ _ ⟨.int (g i j),H,I.tok _,⟨_,rfl⟩,q⟩
theorem opB0 {f:Value→Value→Sem Value} {g:Int→Int→Bool}
  (rule:∀(i j:Int) (t u:Tok) (s:Shared) (Q:Value→Shared→Prop) (E:Value→Shared→Prop),Q (.bool (g i j)) s→wpAny (model X.prog X.w) X.A (f (.int i t) (.int j u)) Q E s) :
  OpR X f (rI0 fun i j=>.bl (g i j)):=by
 intro pins s σ H x y v u Q I rx ry h
 obtain ⟨i,j,rfl,rfl,q⟩:=h
 obtain ⟨t,rfl⟩:=rx
 obtain ⟨t',rfl⟩:=ry
 exact rule i j t t' s _ _ ⟨.bl (g i j),H,I,rfl,q⟩
def CPow (i j:Int):Prop:=0≤j∧j≤1000000∧i.natAbs<2 ^ 64
theorem op_add:OpR X (binaryOp .Add) (rI0 fun i j=>.int (i+j)):=opI0 fun _ _ _ _ _ _ _ q=>add_int q
theorem op_sub:OpR X (binaryOp .Sub) (rI0 fun i j=>.int (i - j)):=opI0 fun _ _ _ _ _ _ _ q=>sub_int q
theorem op_pow:OpR X (binaryOp .Pow) (rI CPow fun i j=>.int (i ^ j.toNat)):=opI fun _ _ _ _ _ _ _ hc q=>pow_int_small hc.1 hc.2.1 hc.2.2 q
theorem unI {f:Value→Sem Value} {g:Int→Int}
  (rule:∀(i:Int) (t:Tok) (s:Shared) (Q:Value→Shared→Prop) (E:Value→Shared→Prop),Q (.int (g i) s.toks) { s with toks:=s.toks+1}→wpAny (model X.prog X.w) X.A (f (.int i t)) Q E s) :
  UnR X f (rU fun i=>.int (g i)):=by
 intro pins s σ H x v Q I rx h
 obtain ⟨i,rfl,q⟩:=h
 obtain ⟨t,rfl⟩:=rx
 exact rule i t s _ _ ⟨.int (g i),H,I.tok _,⟨_,rfl⟩,q⟩
theorem un_neg:UnR X (unaryOp .USub) (rU fun i=>.int (-i)):=unI fun _ _ _ _ _ q=>neg_int q
end
section
variable {X:Cx} {a b c:Expr} {ta tb tc:TE} {pos:Pos}
theorem o8 {pins:List (Addr × Obj)} {σ:St} {H:Hp} {s:Shared} {Q:VK} {k k':Bool} (I:Inv X pins σ H s) (q:Q (.bl k) H) (e:k=k'):EP X pins σ Q (.bool k') s:=by
 subst e
 exact ⟨.bl k,H,I,rfl,q⟩
theorem op_lt:OpR X (compareOp .Lt) (rI0 fun i j=>.bl (decide (i<j))):=opB0 fun _ _ _ _ _ _ _ q=>lt_int q
theorem op_gt:OpR X (compareOp .Gt) (rI0 fun i j=>.bl (decide (j<i))):=opB0 fun _ _ _ _ _ _ _ q=>gt_int q
theorem op_ge:OpR X (compareOp .GtE) (rI0 fun i j=>.bl (decide (j≤i))):=opB0 fun _ _ _ _ _ _ _ q=>ge_int q
theorem op_isN:OpR X (compareOp .Is) (fun x y H Q=>y=.non∧Q (.bl (decide (x=.non))) H):=by
 intro pins s σ H x y v u Q I rx ry h
 obtain ⟨rfl,q⟩:=h
 cases ry
 refine is_none_gen (o8 I q ?_)
 cases x <;> first
  | (cases rx;rfl)
  | (obtain ⟨t,rfl⟩:=rx;rfl)
theorem op_notN:OpR X (compareOp .IsNot) (fun x y H Q=>y=.non∧Q (.bl (!decide (x=.non))) H):=by
 intro pins s σ H x y v u Q I rx ry h
 obtain ⟨rfl,q⟩:=h
 cases ry
 refine isnot_none_gen (o8 I q ?_)
 cases x <;> first
  | (cases rx;rfl)
  | (obtain ⟨t,rfl⟩:=rx;rfl)
theorem nomark (b:Expr) {op:CmpOp} (h:op≠.In:=by decide) (h2:op≠.NotIn:=by decide):behindInMarks op b=false:=by
 have e1:(op == CmpOp.In)=false:=by cases op <;> first | rfl | exact absurd rfl h
 have e2:(op == CmpOp.NotIn)=false:=by cases op <;> first | rfl | exact absurd rfl h2
 cases b <;> simp[behindInMarks,e1,e2]
theorem pe_cmpR {op:CmpOp} {r:R2} (ho:OpR X (compareOp op) r) (ha:PE X a ta) (hb:PE X b tb) (hm:behindInMarks op b=false):PE X (.Compare a [op] [b] pos) (tOp r ta tb):=by
 intro pins s σ H Q I h
 exact wpAny_Compare1 (binT ha hb I h fun v u s2 x y H2 I2 rx ry q=>ho pins s2 σ H2 x y v u Q I2 rx ry q) hm
def tTest (t:TE):TT:=fun σ H Q=>t σ H fun x H'=>∃k,x=.bl k∧Q k H'
theorem pt_cmpR {op:CmpOp} {r:R2} (ho:OpR X (compareOp op) r) (ha:PE X a ta) (hb:PE X b tb) (hm:behindInMarks op b=false):PT X (.Compare a [op] [b] pos) (tTest (tOp r ta tb)):=by
 intro pins s σ H Q I h
 refine wpAny_isTrue_Compare1 (thn (ha pins s σ H _ I h) fun v s1 ⟨x,H1,I1,r1,q1⟩=>thn (hb pins s1 σ H1 _ I1 q1) fun u s2 ⟨y,H2,I2,r2,q2⟩ =>
  thn (ho pins s2 σ H2 x y v u _ I2 r1 r2 q2) fun c s3 ⟨z,H3,I3,r3,k,e,q3⟩=>?_) hm
 subst e
 cases r3
 exact wpAny_truthy_bool ⟨H3,I3,q3⟩
theorem gM:(sizeLine:Nat)<2 ^ 63:=by rw[sizeLine_eq];decide
theorem oO:OpR X (binaryOp .Add) (fun x y H Q=>∃i j,x=.str i∧y=.str j∧i.length+j.length≤sizeLine∧Q (.str (i++j)) H):=by
 intro pins s σ H x y v u Q I rx ry h
 obtain ⟨i,j,rfl,rfl,hz,q⟩:=h
 obtain ⟨t,rfl⟩:=rx
 obtain ⟨t',rfl⟩:=ry
 exact add_str (fun t' tk=>⟨.str (i++j),H,I.tok _,⟨_,rfl⟩,q⟩) hz
theorem iw {x:V} {us:List Value} (r:Vals [x] us):∃u,us=[u]∧RelV x u:=by
 cases r with
 | cons r1 r2=>cases r2;exact ⟨_,rfl,r1⟩
theorem vals2 {x y:V} {us:List Value} (r:Vals [x,y] us):∃u w',us=[u,w']∧RelV x u∧RelV y w':=by
 cases r with
 | cons r1 r2 =>
  cases r2 with
  | cons r3 r4=>cases r4;exact ⟨_,_,rfl,r1,r3⟩
theorem sj:cW X (.builtin "abs") (fun xs H Q=>∃i,xs=[.int i]∧Q (.int (if i<0 then -i else i)) H):=by
 intro pins s σ H xs us Q I r h
 obtain ⟨i,rfl,q⟩:=h
 obtain ⟨u,rfl,t,rfl⟩:=iw r
 exact call_abs_int fun u tk=>⟨.int (if i<0 then -i else i),H,I.tok _,⟨_,rfl⟩,q⟩
theorem oX (hc:X.calm=true):cW X (.builtin "min") (fun xs H Q=>∃i j,xs=[.int i,.int j]∧Q (.int (if j<i then j else i)) H):=by
 intro pins s σ H xs us Q I r h
 obtain ⟨i,j,rfl,q⟩:=h
 obtain ⟨u,w',rfl,⟨t,rfl⟩,⟨t',rfl⟩⟩:=vals2 r
 refine min_two_ints (I.ok.hd hc) fun h' tk k=>⟨_,H,I.kept k,?_,q⟩
 by_cases hj:j<i
 ·rw[if_pos hj,if_pos hj];exact ⟨_,rfl⟩
 ·rw[if_neg hj,if_neg hj];exact ⟨_,rfl⟩
theorem j7:cW X (.type "int") (fun xs H Q=>(∃i,xs=[.int i]∧Q (.int i) H)∨∃k,xs=[.bl k]∧Q (.int (if k then 1 else 0)) H):=by
 intro pins s σ H xs us Q I r h
 rcases h with ⟨i,rfl,q⟩|⟨k,rfl,q⟩
 ·obtain ⟨u,rfl,t,rfl⟩:=iw r
  exact call_int_int ⟨.int i,H,I,⟨_,rfl⟩,q⟩
 ·obtain ⟨u,rfl,r1⟩:=iw r
  cases r1
  exact call_int_bool ⟨.int (if k then 1 else 0),H,I.tok _,⟨_,rfl⟩,q⟩
def LenV (K:PySem.W.Frag) (x:V) (H:Hp) (n:Nat):Prop :=
 match x with
 | .str y=>y.length≤sizeLine∧n=y.length
 | .byt y=>y.size≤sizeLine∧n=y.size
 | .ref p=>(∃xs,SqL K H p xs∧n=xs.length)∨∃xs,SqT K H p xs∧n=xs.length
 | _=>False
theorem gm:cW X (.builtin "len") (fun xs H Q=>∃x n,xs=[x]∧LenV X.K x H n∧Q (.int n) H):=by
 intro pins s σ H xs us Q I r h
 obtain ⟨x,n,rfl,e,q⟩:=h
 obtain ⟨u,rfl,rx⟩:=iw r
 have hl:=gM
 have hs:sizeLine=16777216:=sizeLine_eq
 cases x with
 | str y =>
  obtain ⟨t,rfl⟩:=rx
  obtain ⟨hy,e'⟩:y.length≤sizeLine∧n=y.length:=e
  subst e'
  exact len_str (by omega) ⟨.int _,H,I.tok _,⟨_,rfl⟩,q⟩
 | byt y =>
  obtain ⟨t,rfl⟩:=rx
  obtain ⟨hy,e'⟩:y.size≤sizeLine∧n=y.size:=e
  subst e'
  exact PySem.W.len_bytes (by omega) ⟨.int _,H,I.tok _,⟨_,rfl⟩,q⟩
 | ref p =>
  cases rx
  have e':(∃xs,SqL X.K H p xs∧n=xs.length)∨∃xs,SqT X.K H p xs∧n=xs.length:=e
  rcases e' with ⟨xs,hx,e'⟩|⟨xs,hx,e'⟩
  ·subst e'
   obtain ⟨its,r',pl,hz⟩:=I.list hx
   have hlen:=r'.length
   exact Calls.call_len_list pl.isList (by simp only[List.size_toArray];omega) ⟨.int xs.length,H,I.tok _,⟨_,by simp only[List.size_toArray];rw[hlen]⟩,q⟩
  ·subst e'
   obtain ⟨its,r',pl,hz⟩:=I.tuple hx
   have hlen:=r'.length
   exact len_tuple pl (by simp only[List.size_toArray];omega) ⟨.int xs.length,H,I.tok _,⟨_,by simp only[List.size_toArray];rw[hlen]⟩,q⟩
 | _=>exact (show False from e).elim
end
section
variable {prog:Program} {w:World} {A:Around} {E:Value→Shared→Prop} {s:Shared} {K:PySem.W.Frag} {x dx C f:Addr} {mA:Str→Option Value} {name:Str} {v:Value}
end
section
variable {P:Program} {w:World} {H H':Hp} {h h':Heap} {a C dx:Addr} {fs fs':List (Str × V)}
end
section
variable {X:Cx} {pins:List (Addr × Obj)} {σ:St} {H:Hp} {s:Shared} {a C dx:Addr} {fs:List (Str × V)} {f:Str} {v:V} {A:Around} {E:Value→Shared→Prop}
end
section
variable {X:Cx} {o e value:Expr} {f:Str} {pos pos' tpos:Pos} {ta tv:TE}
end
section
variable {X:Cx} {pins:List (Addr × Obj)} {σ:St} {H:Hp} {s:Shared} {A:Around} {E:Value→Shared→Prop} {Q:Value→Shared→Prop} {c:Value} {b:Bool}
end
structure Room (k:Nat) (A:Around):Prop where
 hd:A.handled=none
 dp:A.depth+3 * k+5<recursionLimit
 un:A.units+16 * k+200<cLine
 gd:A.guards=some []
theorem Room.mono {j k:Nat} {A:Around} (r:Room k A) (h:j≤k):Room j A:=⟨r.hd,by have:=r.dp;omega,by have:=r.un;omega,r.gd⟩
theorem Room.deeper {k:Nat} {A:Around} (r:Room (k+1) A) (env:Env):Room k (A.deeper env) :=
 ⟨r.hd,by have:=r.dp;show A.depth+1+3 * k+5<_;omega,by have:=r.un;show A.units+3+16 * k+200<_;omega,r.gd⟩
theorem Room.depth {k:Nat} {A:Around} (r:Room k A):A.depth<recursionLimit:=by have:=r.dp;omega
theorem Room.units {k:Nat} {A:Around} (r:Room k A):A.units+64<cLine:=by have:=r.un;omega
def tNil:TA:=fun _ H Q=>Q [] H
def tCons (ta:TE) (tr:TA):TA:=fun σ H Q=>ta σ H fun x H1=>tr σ H1 fun xs H2=>Q (x::xs) H2
section
variable {X:Cx} {e:Expr} {es:List Expr} {te:TE} {t:TA} {pos:Pos}
theorem la:PA X [] tNil:=fun _ _ _ _ H Q I h=>Calls.spliced_nil ⟨[],H,I,.nil,h⟩
theorem iu (ha:PE X e te) (hr:PA X es t) (hs:starEach (e::es) X.env=(false,eval e X.env)::starEach es X.env:=by rfl):PA X (e::es) (tCons te t):=by
 intro pos pins s σ H Q I h
 rw[hs]
 show wpAny _ _ (spliced ((false,eval e X.env)::backTo pos (starEach es X.env))) _ _ s
 refine Calls.spliced_cons (thn (ha pins s σ H _ I h) fun u s1 ⟨x,H1,I1,r1,q1⟩=>?_)
 exact thn (hr pos pins s1 σ H1 _ I1 q1) fun us s2 ⟨xs,H2,I2,r2,q2⟩=>⟨x::xs,H2,I2,.cons r1 r2,q2⟩
def tTup (t:TA):TE:=fun σ H Q=>t σ H fun xs H1=>xs.length≤sizeLine∧∀p,H1 p=none→Q (.ref p) (upd H1 p (.tup xs))
def tLst (t:TA):TE:=fun σ H Q=>t σ H fun xs H1=>xs.length≤sizeLine∧∀p,H1 p=none→Q (.ref p) (upd H1 p (.lst xs))
theorem pe_tup {x1} (h:PA X es t):PE X (.Tuple es x1 pos) (tTup t):=by
 intro pins s σ H Q I hq
 refine wpAny_Tuple_spliced (thn (h pos pins s σ H _ I hq) fun us s1 ⟨xs,H1,I1,r,z,q⟩=>⟨by rw[←r.length];exact z,?_⟩)
 have hf:H1 s1.heap.objs.size=none:=I1.hok.fresh (Nat.le_refl _)
 refine ⟨.ref s1.heap.objs.size,upd H1 s1.heap.objs.size (.tup xs),I1.laid (t':=s1.toks) (fun b u e=>Heap.get?_push_of_some _ e) (Nat.le_refl _) ?_,rfl,q _ hf⟩
 exact ⟨z,us,r,⟨_,Heap.get?_push_size _ rfl,rfl,⟨_,rfl⟩,rfl⟩⟩
theorem pe_lst (h:PA X es t):PE X (.List es pos) (tLst t):=by
 intro pins s σ H Q I hq
 refine wpAny_List_spliced (thn (h pos pins s σ H _ I hq) fun us s1 ⟨xs,H1,I1,r,z,q⟩=>⟨by rw[←r.length];exact z,?_⟩)
 have hf:H1 s1.heap.objs.size=none:=I1.hok.fresh (Nat.le_refl _)
 refine ⟨.ref s1.heap.objs.size,upd H1 s1.heap.objs.size (.lst xs),I1.laid (t':=s1.toks) (fun b u e=>Heap.get?_push_of_some _ e) (Nat.le_refl _) ?_,rfl,q _ hf⟩
 exact ⟨z,us,0,r,Heap.get?_push_size _ rfl⟩
end
abbrev Sp:=List V→Hp→VK→XK→Prop
abbrev CXT:=List Env→Hp→Shared→XK→Value→Shared→Prop
structure Env0 (P:Program) (w:World) (K:PySem.W.Frag) (mg:Str→Option Value) (base:Heap) (A:Around) (outer:List Env) (s:Shared) (H:Hp):Prop where
 frames:A.frames=some outer
 mod:Mod K mg base
 bs:∀b o,base.get? b=some o→s.heap.get? b=some o∧H b=none
 bsz:base.objs.size≤s.heap.objs.size
 funs:s.heap.FunFrames base outer
 frf:∀b∈frs outer,H b=none
 hok:HOk P w H s.heap
 bare:AllBare s.gens
def CE (outer:List Env) (P:Program) (w:World) (H:Hp) (s:Shared) (Q:VK) (u:Value) (s':Shared):Prop :=
 ∃v H',s'.os=s.os∧AllBare s'.gens∧Un (frs outer) [] H H' s.heap s'.heap∧HOk P w H' s'.heap∧RelV v u∧Q v H'
def CR (CX:CXT) (outer:List Env) (P:Program) (w:World) (H:Hp) (s:Shared) (Q:VK) (E:XK) (r:Result) (s':Shared):Prop :=
 match r with
 | .ok (.ret u)=>CE outer P w H s Q u s'
 | .ok _=>False
 | .error e=>CX outer H s E e s'
structure FnOk (P:Program) (w:World) (K:PySem.W.Frag) (mg:Str→Option Value) (base:Heap) (CX:CXT) (k:Nat) (f:Addr) (fd:FuncData) (ps:List Str) (sp:Sp):Prop where
 len:∀vs H Q E,sp vs H Q E→vs.length=ps.length
 run:∀(A:Around) (outer:List Env) (s:Shared) (H:Hp) (args:Args) (us:List Value) (vs:List V) (Q:VK) (E:XK),Room k A→Env0 P w K mg base A outer s H→BindsTo s fd args (ps.zip us)→Vals vs us→sp vs H Q E →
  codeAny (model P w) A (.call (.ref f) args) (CR CX outer P w H s Q E) s
theorem FnOk.mono {P:Program} {w:World} {K:PySem.W.Frag} {mg:Str→Option Value} {base:Heap} {CX:CXT} {j k:Nat} {f:Addr} {fd:FuncData} {ps:List Str} {sp:Sp} (F:FnOk P w K mg base CX j f fd ps sp) (h:j≤k) :
  FnOk P w K mg base CX k f fd ps sp:=⟨F.len,fun A outer s H args us vs Q E hr=>F.run A outer s H args us vs Q E (hr.mono h)⟩
theorem FnOk.imp {P:Program} {w:World} {K:PySem.W.Frag} {mg:Str→Option Value} {base:Heap} {CX:CXT} {k:Nat} {f:Addr} {fd:FuncData} {ps:List Str} {sp sp':Sp} (F:FnOk P w K mg base CX k f fd ps sp)
  (h:∀vs H Q E,sp' vs H Q E→sp vs H Q E):FnOk P w K mg base CX k f fd ps sp' :=
 ⟨fun vs H Q E q=>F.len vs H Q E (h _ _ _ _ q),fun A outer s H args us vs Q E hr he hb hv hs=>F.run A outer s H args us vs Q E hr he hb hv (h _ _ _ _ hs)⟩
section
variable {X:Cx} {pins:List (Addr × Obj)} {σ:St} {H:Hp} {s s':Shared}
theorem Inv.env0 (I:Inv X pins σ H s):Env0 X.prog X.w X.K X.mg X.base X.A X.stack s H :=
 ⟨I.ok.frames,I.ok.mod,I.bs,Nat.le_trans I.ok.bsz I.sz,I.stack,I.stkFree,I.hok,I.bare⟩
theorem Inv.after {Q:VK} {u:Value} (I:Inv X pins σ H s) (h:CE X.stack X.prog X.w H s Q u s'):EP X pins σ Q u s':=by
 obtain ⟨v,H',os,bare,un,hok,r,q⟩:=h
 obtain ⟨hh,g,d,t,os'⟩:=s'
 obtain rfl:os'=s.os:=os
 exact ⟨v,H',I.call (h':=hh) (g':=g) (d':=d) (t':=t) (ch:=[]) un hok bare (fun b z=>absurd z (by simp)),r,q⟩
end
def jH (K:PySem.W.Frag) (fd:FuncData) (ps:List Str) (ds:List Value):Prop :=
 ∀(s:Shared) (us:List Value),K.In s.heap→(us++ds).length=ps.length→BindsTo s fd ⟨us,[]⟩ (ps.zip (us++ds))
theorem jH.all {K:PySem.W.Frag} {fd:FuncData} {ps:List Str} (h:∀us:List Value,us.length=ps.length→bindArgs fd ⟨us,[]⟩=pure (ps.zip us)):jH K fd ps []:=fun s us _ hl=>by
 rw[List.append_nil] at hl ⊢
 exact .of_eq (h us hl)
section
variable {X:Cx} {CX:CXT} {k:Nat} {f C:Addr} {fd:FuncData} {ps:List Str} {sp:Sp} {dvs:List V} {ds:List Value} {E:XK} {x m:Str} {p pos apos:Pos} {e o:Expr} {es:List Expr} {ta:TE} {t:TA}
end
section
variable {X:Cx} {CX:CXT} {k:Nat} {f C:Addr} {fd:FuncData} {ps ks:List Str} {sp:Sp} {E:XK} {x m:Str} {p pos apos kpos:Pos} {e o:Expr} {es:List Expr} {kws:List Keyword} {te ta:TE} {t tk:TA} {nm:Option Str}
variable {g:List Value→List Value→List Value} {gV:List V→List V→List V}
end
structure FnScope (N P:List Str) (sc:Scope):Prop where
 kind:sc.kind=.function
 co:sc.isCoroutine=false
 gen:sc.isGenerator=false
 nd:N.Nodup
 pre:N.take P.length=P
 par:∀x∈P,sc.names.lookup x=some .local∨sc.names.lookup x=some .cell
 nofree:∀y∈sc.names,y.2≠.free
theorem kr {kindOf:Str→Option NameKind} {x:Str}:∀{binds:List (Str × Value)} {m:Str→Option Value},(∀v,(x,v)∉binds)→bindL kindOf binds m x=m x
 | [],_,_=>rfl
 | (n,v)::r,m,h=>by
  unfold bindL
  rw[kr fun w hw=>h w (List.mem_cons_of_mem _ hw)]
  split
  ·have:x≠n:=by rintro rfl;exact h v List.mem_cons_self
   simp[this]
  ·rfl
theorem j4 {kindOf:Str→Option NameKind} {x:Str}:∀{binds:List (Str × Value)} {m:Str→Option Value},(∀v,(x,v)∉binds)→bindC kindOf binds m x=m x
 | [],_,_=>rfl
 | (n,v)::r,m,h=>by
  unfold bindC
  rw[j4 fun w hw=>h w (List.mem_cons_of_mem _ hw)]
  split
  ·rfl
  ·have:x≠n:=by rintro rfl;exact h v List.mem_cons_self
   simp[this]
theorem km {kindOf:Str→Option NameKind} {x:Str} {v:Value}:∀{P:List Str} {vs:List Value} {i:Nat} {m:Str→Option Value},P.Nodup→P[i]?=some x→vs[i]?=some v→kindOf x=some .local →
  bindL kindOf (P.zip vs) m x=some v
 | [],_,_,_,_,h,_,_=>by simp at h
 | _::_,[],_,_,_,_,h,_=>by simp at h
 | p::P,w::vs,0,m,nd,h1,h2,hk=>by
  simp at h1 h2;subst h1;subst h2
  show bindL kindOf ((p,w)::P.zip vs) m p=_
  unfold bindL
  rw[kr fun v hv=>(List.nodup_cons.mp nd).1 (List.of_mem_zip hv).1,if_pos hk]
  simp
 | p::P,w::vs,i+1,m,nd,h1,h2,hk=>by
  show bindL kindOf ((p,w)::P.zip vs) m x=_
  unfold bindL
  exact km (i:=i) (List.nodup_cons.mp nd).2 (by simpa using h1) (by simpa using h2) hk
theorem kc {kindOf:Str→Option NameKind} {x:Str} {v:Value}:∀{P:List Str} {vs:List Value} {i:Nat} {m:Str→Option Value},P.Nodup→P[i]?=some x→vs[i]?=some v→kindOf x≠some .local →
  bindC kindOf (P.zip vs) m x=some v
 | [],_,_,_,_,h,_,_=>by simp at h
 | _::_,[],_,_,_,_,h,_=>by simp at h
 | p::P,w::vs,0,m,nd,h1,h2,hk=>by
  simp at h1 h2;subst h1;subst h2
  show bindC kindOf ((p,w)::P.zip vs) m p=_
  unfold bindC
  rw[j4 fun v hv=>(List.nodup_cons.mp nd).1 (List.of_mem_zip hv).1,if_neg hk]
  simp
 | p::P,w::vs,i+1,m,nd,h1,h2,hk=>by
  show bindC kindOf ((p,w)::P.zip vs) m x=_
  unfold bindC
  exact kc (i:=i) (List.nodup_cons.mp nd).2 (by simpa using h1) (by simpa using h2) hk
def start (N:List Str) (vs:List V):St:=vs.map some++List.replicate (N.length - vs.length) none
def cxOf (CX:CXT) (P:Program) (w:World) (K:PySem.W.Frag) (mg:Str→Option Value) (base:Heap) (N:List Str) (qual:Str) (scope:Scope) (f:Addr) (cd:Value) (A:Around) (outer:List Env) (s:Shared) (H:Hp) (E:XK):Cx where
 prog:=P
 w:=w
 K:=K
 mg:=mg
 base:=base
 A:=A.deeper (envOfC qual scope s.heap.objs.size f cd)
 N:=N
 s₀:=s
 H₀:=H
 env:=envOfC qual scope s.heap.objs.size f cd
 outer:=outer
 stack:=envOfC qual scope s.heap.objs.size f cd::outer
 ex:=[]
 calm:=true
 fn:=fun _=>true
 pn:=[]
 xe:=fun e s'=>wpAny (model P w) (A.deeper (envOfC qual scope s.heap.objs.size f cd)) (leaving (envOfC qual scope s.heap.objs.size f cd) e) (fun _ s''=>CX outer H s E e s'') (fun e' s''=>CX outer H s E e' s'') s'
theorem lc {sc:Scope} {n:Nat} {x:Str} (h:sc.names.lookup x=some .cell):∃c,(cellsFrom n sc.names []).lookup x=some c:=by
 have q:=PySem.W.cellsFrom_some sc.names n [] (.inl h)
 exact Option.isSome_iff_exists.mp q
theorem pC {CX:CXT} {P:Program} {w:World} {K:PySem.W.Frag} {mg:Str→Option Value} {base:Heap} {N ps:List Str} {qual:Str} {scope:Scope} {f:Addr} {cd:Value} {A:Around} {outer:List Env} {s s1:Shared} {H:Hp} {E:XK} {us:List Value} {vs:List V}
  (S:FnScope N ps scope) (hd:A.handled=none) (e0:Env0 P w K mg base A outer s H) (hl:vs.length=ps.length) (r:Vals vs us)
  (x:InCallC s s.heap.objs.size (bindL (envOfC qual scope s.heap.objs.size f cd).kindOf (ps.zip us) fun _=>none) (cellsFrom (s.heap.objs.size+1) scope.names []) (bindC (envOfC qual scope s.heap.objs.size f cd).kindOf (ps.zip us) fun _=>none) s1) :
  Inv (cxOf CX P w K mg base N qual scope f cd A outer s H E) [] (start N vs) H s1:=by
 have hpl:ps.length≤N.length:=by have:=congrArg List.length S.pre;rw[List.length_take] at this;omega
 obtain ⟨h1,tk,rfl,hk⟩:=x.done
 have noA:∀b:Addr,b∉(cxOf CX P w K mg base N qual scope f cd A outer s H E).ex:=fun b z=>absurd (show b∈([]:List Addr) from z) (by simp)
 refine ⟨⟨e0.mod,S.kind,rfl,rfl,Nat.le_refl _,fun y z c h1 h2=>?_,fun y hy=>?_,fun y c _ h=>?_,fun _=>hd,Around.frames_deeper e0.frames,.inr ⟨rfl,rfl⟩,fun b z=>absurd z (noA b),e0.bs,e0.bsz,fun b _ _=>noA b,fun b z=>absurd z (noA b),e0.funs,e0.frf⟩,
  rfl,e0.bare,Un.kept hk,⟨_,x.toInCall.ns,fun i y v h1 h2 h3=>?_⟩,fun y c h=>⟨_,x.cell y c h⟩,e0.hok.fresh (Nat.le_refl _),fun y c h=>?_,fun p hp=>absurd (show p∈([]:List (Addr × Obj)) from hp) (by simp),e0.hok.kept hk,?_⟩
 ·exact name_of_addr x.apart (PySem.mem_of_lookup h1) (PySem.mem_of_lookup h2)
 ·have hy:scope.names.lookup y=some .cell∨scope.names.lookup y=some .free:=hy
  rcases hy with hy|hy
  ·exact lc hy
  ·exact absurd rfl (S.nofree _ (PySem.mem_of_lookup hy))
 ·exact Nat.le_of_lt (x.above y c (PySem.mem_of_lookup h))
 ·have hi:i<vs.length:=by
   unfold start at h2
   by_cases hi:i<vs.length
   ·exact hi
   ·rw[List.getElem?_append_right (by simpa using hi)] at h2
    rw[List.getElem?_replicate] at h2
    split at h2 <;> cases h2
  have ha:vs[i]?=some v:=by
   unfold start at h2
   rw[List.getElem?_append_left (by simpa using hi),List.getElem?_map] at h2
   cases e:vs[i]? with
   | none=>rw[e] at h2;cases h2
   | some a=>rw[e] at h2;cases h2;rfl
  obtain ⟨u,hu,rv⟩:=r.get ha
  have hp:ps[i]?=some y:=by
   rw[←S.pre,List.getElem?_take_of_lt (by omega)];exact h1
  have ndP:ps.Nodup:=by rw[←S.pre];exact S.nd.sublist (List.take_sublist _ _)
  refine ⟨u,rv,?_⟩
  rcases S.par y (List.mem_of_getElem? hp) with k|k
  ·exact .inl ⟨k,km ndP hp hu k⟩
  ·obtain ⟨c,e⟩:=lc (n:=s.heap.objs.size+1) k
   refine .inr ⟨.inl k,c,e,?_⟩
   have q:=x.cell y c e
   rw[kc ndP hp hu (by show scope.names.lookup y≠_;rw[k];decide)] at q
   exact q
 ·exact e0.hok.fresh (Nat.le_of_lt (x.above y c (PySem.mem_of_lookup h)))
 ·unfold start
  show _=N.length
  rw[List.length_append,List.length_map,List.length_replicate]
  omega
theorem fn_of {CX:CXT} {P:Program} {w:World} {K:PySem.W.Frag} {mg:Str→Option Value} {base:Heap} {k:Nat} {f:Addr} {name qual:Str} {params:Arguments} {body:List Stmt} {scope:Scope} {dV kV doc pm cdv ct oc:Value} {an od:Option Addr}
  {osl:Array (Option Value)} {N ps:List Str} {sp:Sp} (lk:K.lookup f=some ⟨oc,od,.func (PySem.W.fnOf name qual params body scope dV kV doc pm an cdv ct),osl⟩) (hcd:PySem.W.codeIn K cdv qual=true) (S:FnScope N ps scope)
  (len:∀vs H Q E,sp vs H Q E→vs.length=ps.length)
  (hbody:∀(A:Around) (outer:List Env) (s:Shared) (H:Hp) (vs:List V) (Q:VK) (E:XK),Room k (A.deeper (envOfC qual scope s.heap.objs.size f cdv))→sp vs H Q E →
   ∃t,PSs (cxOf CX P w K mg base N qual scope f cdv A outer s H E) body t∧t { nx:=fun _ H'=>Q .non H',rt:=Q} (start N vs) H) :
  FnOk P w K mg base CX (k+1) f (PySem.W.fnOf name qual params body scope dV kV doc pm an cdv ct) ps sp:=by
 refine ⟨len,fun A outer s H args us vs Q E hr e0 hb r hsp=>?_⟩
 have hl:=len _ _ _ _ hsp
 have KX:K.In s.heap:=e0.mod.kin.keeps fun b o e=>(e0.bs b o e).1
 have lim:s.heap.NoLimit:=e0.mod.nolimit.keeps fun b o e=>(e0.bs b o e).1
 have hkind:∀y∈ps.zip us,scope.names.lookup y.1=some .local∨(scope.names.lookup y.1=some .cell∧((cellsFrom (s.heap.objs.size+1) scope.names []).lookup y.1).isSome=true):=fun ⟨n,v⟩ hy=>by
  rcases S.par n (List.of_mem_zip hy).1 with q|q
  ·exact .inl q
  ·exact .inr ⟨q,PySem.W.cellsFrom_some _ _ _ (.inl q)⟩
 refine codeAny_call_function hr.depth (KX _ _ lk) rfl S.co S.gen rfl (PySem.W.codeRec_of KX hcd) (hb _ _ _ _ ?_)
 refine wpAny_newFunctionEnv_cells S.kind hkind fun env he s1 x=>?_
 subst he
 refine ⟨lim.keeps x.toInCall.keep,codeAny_func ?_⟩
 obtain ⟨t,ht,hq⟩:=hbody A outer s H vs Q E (hr.deeper _) hsp
 have I:Inv (cxOf CX P w K mg base N qual scope f cdv A outer s H E) [] (start N vs) H s1:=pC S hr.hd e0 hl r x
 refine wpAny_mono (ht [] s1 (start N vs) H _ I hq) (fun fl s' hs=>?_) fun e s' hs=>hs
 have fin:∀{σ':St} {H':Hp} {v:V} {u:Value},Inv (cxOf CX P w K mg base N qual scope f cdv A outer s H E) [] σ' H' s'→RelV v u→Q v H'→CE outer P w H s Q u s' :=
  fun {σ' H' v u} J rv q=>⟨v,H',J.os,J.bare,J.base,J.hok,rv,q⟩
 cases fl with
 | ret u =>
  obtain ⟨v,σ',H',J,rv,q⟩:=hs
  exact fin J rv q
 | next =>
  obtain ⟨σ',H',J,q⟩:=hs
  exact fin (v:=V.non) (u:=Value.none) J rfl q
 | brk =>
  obtain ⟨_,_,_,q⟩:=hs
  exact False.elim q
 | cont =>
  obtain ⟨_,_,_,q⟩:=hs
  exact False.elim q
section
variable {X:Cx} {x:Str} {p pos:Pos} {e:Expr} {es:List Expr} {t:TA} {id T:String} {r:List V→Hp→VK→Prop}
def tCB (r:List V→Hp→VK→Prop) (t:TA):TE:=fun σ H Q=>t σ H fun vs H1=>r vs H1 Q
theorem lu (hc:cW X (.builtin id) r) (hg:Gl X x) (hm:X.mg x=none) (hv:bootBuiltins x=some (.builtin id)) (ha:PA X (e::es) t) (hn:x≠"__name__":=by decide) (hdb:(x == ("__debug__":Str))=false:=by decide)
  (he:starEach (e::es) X.env=(false,eval e X.env)::starEach es X.env:=by rfl) (hpl:(backTo pos (starEach es X.env)).any (·.1)=false:=by rfl):PE X (.Call (.Name x p) (e::es) [] pos) (tCB r t):=by
 intro pins s σ H Q I h
 refine wpAny_Call_Name_kw (gQ I hg hm hv ?_ hn hdb)
 exact PyProof.Rows.callWith_builtin1 (thn (ha pos pins s σ H _ I h) fun us s1 ⟨vs,H1,I1,r1,q1⟩=>hc pins s1 σ H1 vs us Q I1 r1 q1) he hpl
theorem j6 (hc:cW X (.type T) r) (hg:Gl X x) (hm:X.mg x=none) (hv:bootBuiltins x=some (.type T)) (ha:PA X (e::es) t) (hn:x≠"__name__":=by decide) (hdb:(x == ("__debug__":Str))=false:=by decide)
  (he:starEach (e::es) X.env=(false,eval e X.env)::starEach es X.env:=by rfl) (hpl:(backTo pos (starEach es X.env)).any (·.1)=false:=by rfl):PE X (.Call (.Name x p) (e::es) [] pos) (tCB r t):=by
 intro pins s σ H Q I h
 refine wpAny_Call_Name_kw (gQ I hg hm hv ?_ hn hdb)
 exact PyProof.Rows.callWith_type1 (thn (ha pos pins s σ H _ I h) fun us s1 ⟨vs,H1,I1,r1,q1⟩=>hc pins s1 σ H1 vs us Q I1 r1 q1) he hpl
end
end L2
namespace HT
open PySem PyProof.Rows
section
open PySem.SeqAt
open PySem.AutoSeq1 (wpAny_loadPart')
open PySem.MeetsSeq PySem.MeetsSeq2 PySem.MeetsSeq3
end
section
variable {prog:Program} {w:World} {A:Around} {E:Value→Shared→Prop} {s:Shared}
theorem cat_tup {t b:Addr} {vs ws:List Value} {Q:Value→Shared→Prop} (ht:IsTup s.heap t vs.toArray) (hb:IsTup s.heap b ws.toArray) (hv:vs≠[])
  (h1:ws=[]→Q (.ref t) s) (h2:ws≠[]→Q (.ref s.heap.objs.size) { s with heap:=s.heap.push { cls:=.type "tuple",data:=.seq (vs++ws).toArray}})
  (hsz:vs.length+ws.length≤sizeLine):wpAny (model prog w) A (binaryOp .Add (.ref t) (.ref b)) Q E s:=by
 obtain ⟨⟨cls,dd,data,sl⟩,ho,hc,n,hd⟩:=id ht
 obtain ⟨⟨cls2,dd2,data2,sl2⟩,ho2,hc2,n2,hd2⟩:=id hb
 simp only at hc hd hc2 hd2
 subst hc hd hc2 hd2
 have e:vs.toArray++ws.toArray=(vs++ws).toArray:=by simp
 by_cases hw:ws=[]
 ·exact concat_meets ⟨_,ho,rfl⟩ ⟨_,ho2,rfl⟩ noFill_tuple_add seq_tuple_add PySem.F.slot_tuple_add PySem.F.entry_tuple_add (PySem.F.args_tuple_add_2 _ _)
   (tuple_addW1 t b vs.toArray ws.toArray n n2 dd dd2 sl sl2 (by simpa using hv) (by simp[hw])) ⟨ho,ho2,h1 hw⟩
 ·refine concat_meets ⟨_,ho,rfl⟩ ⟨_,ho2,rfl⟩ noFill_tuple_add seq_tuple_add PySem.F.slot_tuple_add PySem.F.entry_tuple_add (PySem.F.args_tuple_add_2 _ _)
   (tuple_addW2 t b vs.toArray ws.toArray n n2 dd dd2 sl sl2 (by simpa using hv) (by simpa using hw) (by rw[List.size_toArray,List.size_toArray];exact hsz)) ⟨ho,ho2,?_⟩
  rw[e]
  exact h2 hw
def sIx (n d:Nat):Option Int→Nat
 | none=>d
 | some v=>if v<0 then (v+(n:Int)).toNat else min v.toNat n
theorem ln (n d:Nat):sIx n d none=d:=rfl
theorem mN (n d k:Nat):sIx n d (some (k:Int))=min k n:=by
 show (if (k:Int)<0 then ((k:Int)+(n:Int)).toNat else min (k:Int).toNat n)=min k n
 rw[if_neg (by omega),Int.toNat_natCast]
theorem sIx_le (n d:Nat) (hd:d≤n) (o:Option Int):sIx n d o≤n:=by
 cases o with
 | none=>exact hd
 | some v =>
  show (if v<0 then (v+(n:Int)).toNat else min v.toNat n)≤n
  by_cases hv:v<0
  ·rw[if_pos hv];omega
  ·rw[if_neg hv];exact Nat.min_le_right _ _
theorem nC (v:Int) (n d:Nat):(if v<0 then max (v+(n:Int)) 0 else min v (n:Int))=((sIx n d (some v):Nat):Int):=by
 show (if v<0 then max (v+(n:Int)) 0 else min v (n:Int))=(((if v<0 then (v+(n:Int)).toNat else min v.toNat n):Nat):Int)
 by_cases hv:v<0
 ·simp only[if_pos hv];omega
 ·simp only[if_neg hv];omega
theorem oS (lo hi:Option Int) (n:Nat):Builtin.Slice.sliceAdjust lo hi 1 (n:Int)=(((sIx n 0 lo:Nat):Int),((sIx n n hi:Nat):Int)):=by
 have h1:¬((1:Int)<0):=by omega
 unfold Builtin.Slice.sliceAdjust
 simp only[h1,if_false]
 refine Prod.ext ?_ ?_
 ·cases lo with
  | none=>rfl
  | some v=>exact nC v n 0
 ·cases hi with
  | none=>rfl
  | some v=>exact nC v n n
theorem ou (i j:Nat):Builtin.Slice.slicePlaces (i:Int) (j:Int) 1=j - i:=by
 unfold Builtin.Slice.slicePlaces
 have h1:(1:Int)>0:=by omega
 simp only[h1,if_true,Int.ediv_one]
 split <;> omega
theorem jf {v:Value} {o:Option Int} {Q:Option Int→Shared→Prop} (p:IsPart v o) (h:Q o s):wpAny (model prog w) A (Builtin.Slice.slicePartIndex v) Q E s:=by
 cases p with
 | none=>exact slicePart_none h
 | int i t=>exact slicePart_int h
theorem iQ {sl:Addr} {vl vu:Value} {lo hi:Option Int} {n:Nat} {Q:Int × Int × Nat→Shared→Prop} (hs:s.heap.IsSliceOf sl vl vu .none) (pl:IsPart vl lo) (pu:IsPart vu hi)
  (h:Q (((sIx n 0 lo:Nat):Int),1,sIx n n hi - sIx n 0 lo) s):wpAny (model prog w) A (Builtin.Slice.sliceApplied (.ref sl) (pure (n:Int))) Q E s:=by
 obtain ⟨os,hos,hcs,hds⟩:=id hs
 unfold Builtin.Slice.sliceApplied Builtin.Slice.sliceFields
 refine wpAny_bind (wpAny_bind (wpAny_field hos hds (x:=vl) rfl (wpAny_bind (wpAny_field hos hds (x:=vu) rfl (wpAny_bind (wpAny_field hos hds (x:=.none) rfl (wpAny_pure ?_)))))))
 refine wpAny_bind (slicePart_none ?_)
 show wpAny _ _ (if ((1:Int) == 0)=true then _ else _) _ _ s
 rw[if_neg (by decide)]
 refine wpAny_bind (jf pl (wpAny_bind (jf pu (wpAny_bind (wpAny_pure ?_)))))
 show wpAny _ _ (match Builtin.Slice.sliceAdjust lo hi 1 (n:Int) with | (lo,hi)=>pure (lo,(1:Int),Builtin.Slice.slicePlaces lo hi 1)) _ _ s
 rw[oS lo hi n]
 show wpAny _ _ (pure (((sIx n 0 lo:Nat):Int),(1:Int),Builtin.Slice.slicePlaces ((sIx n 0 lo:Nat):Int) ((sIx n n hi:Nat):Int) 1)) _ _ s
 rw[ou]
 exact wpAny_pure h
theorem rK (xs:Array Value) (i k:Nat):((List.range k).filterMap fun (m:Nat)=>xs[((i:Int)+(m:Int) * 1).toNat]?).toArray=((xs.toList.drop i).take k).toArray:=by
 have e:(fun (m:Nat)=>xs[((i:Int)+(m:Int) * 1).toNat]?)=fun m=>xs[i+m]?:=by
  funext m
  have:((i:Int)+(m:Int) * 1).toNat=i+m:=by omega
  rw[this]
 rw[e]
 have:=pick_run xs i k
 rw[List.filterMap_map] at this
 have e2:((fun x=>xs[x]?)∘fun x=>i+x)=fun m=>xs[i+m]?:=rfl
 rw[e2] at this
 rw[this]
theorem iD {t sl:Addr} {items:Array Value} {vl vu:Value} {lo hi:Option Int} {Q:Value→Shared→Prop} (ht:IsTup s.heap t items) (hs:s.heap.IsSliceOf sl vl vu .none) (pl:IsPart vl lo) (pu:IsPart vu hi)
  (hw:¬(sIx items.size 0 lo=0∧sIx items.size items.size hi=items.size))
  (h:Q (.ref s.heap.objs.size) { s with heap:=s.heap.push { cls:=.type "tuple",data:=.seq ((items.toList.drop (sIx items.size 0 lo)).take (sIx items.size items.size hi - sIx items.size 0 lo)).toArray}})
  (hsz:items.size≤sizeLine):wpAny (model prog w) A (getItem (.ref t) (.ref sl)) Q E s:=by
 have htake:sizeOk (.seq ((items.toList.drop (sIx items.size 0 lo)).take (sIx items.size items.size hi - sIx items.size 0 lo)).toArray):=by
  show ((items.toList.drop (sIx items.size 0 lo)).take (sIx items.size items.size hi - sIx items.size 0 lo)).toArray.size≤sizeLine
  rw[List.size_toArray,List.length_take,List.length_drop,Array.length_toList]
  omega
 have hj:sIx items.size items.size hi≤items.size:=sIx_le _ _ (Nat.le_refl _) hi
 obtain ⟨os,hos,hcs,hds⟩:=id hs
 have hTs:s.TypeIs (.ref sl) "slice":=⟨os,hos,hcs⟩
 unfold getItem
 try with_reducible refine wpAny_holding ?_
 first | refine wpAny_bind (wpAny_pure ?_) | skip
 refine wpAny_bind (wpAny_sequenceKey ht.typeIs (by decide) ?_)
 refine wpAny_bind (wpAny_callSpecial?_slot (name:=Str.ofString "__getitem__") ht.typeIs PyProof.Rows.slot_tuple_getitem
  (wpAny_call_entry PyProof.Rows.slot_tuple_getitem ht.typeIs entry_tuple_getitem ?_ (args_tuple_getitem _ _)))
 show wpAny _ _ (Builtin.Tuple.tupleItemsOf (.ref t) >>= _) _ _ s
 refine wpAny_bind (tupleItemsOf_ ht ?_)
 refine wpAny_bind (wpAny_typeOf hTs ?_)
 rw[if_pos (by decide)]
 refine wpAny_bind (iQ hs pl pu ?_)
 have hno:¬((((sIx items.size 0 lo:Nat):Int) == 0 && (1:Int) == 1 && (sIx items.size items.size hi - sIx items.size 0 lo) == items.size)=true):=by
  intro q
  rw[Bool.and_eq_true,Bool.and_eq_true] at q
  have q1:((sIx items.size 0 lo:Nat):Int)=0:=eq_of_beq q.1.1
  have q2:sIx items.size items.size hi - sIx items.size 0 lo=items.size:=eq_of_beq q.2
  exact hw ⟨by omega,by omega⟩
 show wpAny _ _ (if (((sIx items.size 0 lo:Nat):Int) == 0 && (1:Int) == 1 && (sIx items.size items.size hi - sIx items.size 0 lo) == items.size)=true then _ else _) _ _ s
 rw[if_neg hno,rK]
 first
  | exact wpAny_bind (m:=Builtin.Tuple.tupleExact _) (wpAny_newObj_type (wpAny_pure ⟨_,rfl,wpAny_pure h⟩) htake)
  | exact wpAny_bind (m:=Builtin.Tuple.tupleExact _) (wpAny_newObj_type (wpAny_bind (wpAny_pure (wpAny_pure ⟨_,rfl,wpAny_pure h⟩))) htake)
  | exact wpAny_bind (wpAny_bind (m:=Builtin.Tuple.tupleExact _) (wpAny_newObj_type (wpAny_pure (wpAny_pure ⟨_,rfl,wpAny_pure h⟩)) htake))
  | exact wpAny_bind (wpAny_bind (m:=Builtin.Tuple.tupleExact _) (wpAny_newObj_type (wpAny_pure ⟨_,rfl,wpAny_pure h⟩) htake))
end
end HT
namespace L2
open PySem PySem.Spec PyProof.Rows
abbrev TO:=St→Hp→(Option Int→Hp→Prop)→Prop
def PO (X:Cx) (e:Option Expr) (t:TO):Prop :=
 ∀(pins:List (Addr × Obj)) (s:Shared) (σ:St) (H:Hp) (Q:Option Int→Hp→Prop),Inv X pins σ H s→t σ H Q →
  wpAny (model X.prog X.w) X.A (evalPart e X.env) (fun u s'=>∃o H',Inv X pins σ H' s'∧IsPart u o∧Q o H') X.xe s
def tNoPart:TO:=fun _ H Q=>Q none H
def tPart (t:TE):TO:=fun σ H Q=>t σ H fun x H1=>∃i,x=.int i∧Q (some i) H1
section
variable {X:Cx} {e:Expr} {te:TE} {lo hi:Option Expr} {tl th:TO} {pos p2:Pos}
theorem po_none:PO X none tNoPart:=by
 intro pins s σ H Q I h
 rw[evalPart_none]
 exact wpAny_pure ⟨none,H,I,.none,h⟩
theorem po_some (h:PE X e te):PO X (some e) (tPart te):=by
 intro pins s σ H Q I hw
 rw[evalPart_some]
 refine thn (h pins s σ H _ I hw) fun u s1 ⟨x,H1,I1,r1,q1⟩=>?_
 obtain ⟨i,rfl,q⟩:=q1
 obtain ⟨t,rfl⟩:=r1
 exact ⟨some i,H1,I1,.int i t,q⟩
def SlR (X:Cx) (r:V→Option Int→Option Int→Hp→VK→Prop):Prop :=
 ∀(pins:List (Addr × Obj)) (s:Shared) (σ:St) (H:Hp) (x:V) (v vl vu:Value) (lo hi:Option Int) (sl:Addr) (Q:VK),Inv X pins σ H s→RelV x v→s.heap.IsSliceOf sl vl vu .none→IsPart vl lo→IsPart vu hi→r x lo hi H Q →
  ∃T id,typeLookup (.type T) "__getitem__"=pure (some (.builtin id))∧s.TypeIs v T∧wpAny (model X.prog X.w) X.A (getItem v (.ref sl)) (EP X pins σ Q) X.xe s
def tSl (r:V→Option Int→Option Int→Hp→VK→Prop) (te:TE) (tl th:TO):TE:=fun σ H Q=>te σ H fun x H1=>tl σ H1 fun l H2=>th σ H2 fun u H3=>r x l u H3 Q
theorem qT {r:V→Option Int→Option Int→Hp→VK→Prop} (hr:SlR X r) (he:PE X e te) (hl:PO X lo tl) (hu:PO X hi th):PE X (.Subscript e (.Slice lo hi none p2) pos) (tSl r te tl th):=by
 intro pins s σ H Q I h
 refine Subscript_ (thn (he pins s σ H _ I h) fun v s1 ⟨x,H1,I1,r1,q1⟩=>?_)
 refine wpAny_Slice (thn (hl pins s1 σ H1 _ I1 q1) fun vl s2 ⟨l,H2,I2,pl,q2⟩=>thn (hu pins s2 σ H2 _ I2 q2) fun vu s3 ⟨u,H3,I3,pu,q3⟩=>?_)
 rw[evalPart_none]
 refine wpAny_pure ?_
 have I4:Inv X pins σ H3 { s3 with heap:=s3.heap.push { cls:=.type "slice",data:=.fields #[vl,vu,.none]}}:=I3.kept (t':=s3.toks) fun b ob q=>Heap.get?_push_of_some _ q
 obtain ⟨T,id,hT,ht,hg⟩:=hr pins { s3 with heap:=s3.heap.push { cls:=.type "slice",data:=.fields #[vl,vu,.none]}} σ H3 x v vl vu l u s3.heap.objs.size Q I4 r1 (Heap.IsSliceOf.new ..) pl pu q3
 show wpAny (model X.prog X.w) X.A (subscriptTail e (.Slice lo hi none p2) v (.ref s3.heap.objs.size)) (EP X pins σ Q) X.xe { s3 with heap:=s3.heap.push { cls:=.type "slice",data:=.fields #[vl,vu,.none]}}
 exact tail_any (ops:=[.ref s3.heap.objs.size,v]) ht hT hg (by with_unfolding_all rfl)
def cutV (xs:List V) (lo hi:Option Int):List V:=(xs.drop (HT.sIx xs.length 0 lo)).take (HT.sIx xs.length xs.length hi - HT.sIx xs.length 0 lo)
theorem iH (xs:List V) (lo hi:Option Int):(cutV xs lo hi).length≤xs.length:=by
 unfold cutV
 rw[List.length_take,List.length_drop]
 omega
def rSlT (K:PySem.W.Frag):V→Option Int→Option Int→Hp→VK→Prop:=fun x lo hi H Q=>∃a xs,x=.ref a∧SqT K H a xs ∧
 ¬(HT.sIx xs.length 0 lo=0∧HT.sIx xs.length xs.length hi=xs.length)∧∀p,H p=none→Q (.ref p) (upd H p (.tup (cutV xs lo hi)))
theorem sl_tup:SlR X (rSlT X.K):=by
 intro pins s σ H x v vl vu lo hi sl Q I rx hs pl pu h
 obtain ⟨a,xs,rfl,hx,hw,q⟩:=h
 cases rx
 obtain ⟨its,r,ht,hz⟩:=I.tuple hx
 have hlen:its.toArray.size=xs.length:=by rw[List.size_toArray];exact r.length.symm
 refine ⟨"tuple",_,PyProof.Rows.slot_tuple_getitem.lookup,ht.typeIs,?_⟩
 refine HT.iD ht hs pl pu (by rw[hlen];exact hw) ?_ (by rw[hlen];exact hz)
 rw[hlen]
 refine ⟨.ref s.heap.objs.size,_,I.laid (t':=s.toks) (o:=.tup (cutV xs lo hi)) (fun b ob q=>Heap.get?_push_of_some _ q) (Nat.le_refl _) ?_,rfl,q _ (I.hok.fresh (Nat.le_refl _))⟩
 exact ⟨Nat.le_trans (iH xs lo hi) hz,_,(r.drop (HT.sIx xs.length 0 lo)).take (HT.sIx xs.length xs.length hi - HT.sIx xs.length 0 lo),TupN.new _ _⟩
def rCatT (K:PySem.W.Frag):R2:=fun x y H Q=>∃a b xs ys,x=.ref a∧y=.ref b∧SqT K H a xs∧SqT K H b ys∧xs≠[]∧xs.length+ys.length≤sizeLine ∧
 (ys=[]→Q (.ref a) H)∧(ys≠[]→∀p,H p=none→Q (.ref p) (upd H p (.tup (xs++ys))))
theorem Vals.nil_iff {xs:List V} {us:List Value} (r:Vals xs us):us=[]↔xs=[]:=by
 cases r with
 | nil=>simp
 | cons _ _=>simp
theorem op_catT:OpR X (binaryOp .Add) (rCatT X.K):=by
 intro pins s σ H x y v u Q I rx ry h
 obtain ⟨a,b,xs,ys,rfl,rfl,ha,hb,hx,hz,q1,q2⟩:=h
 cases rx
 cases ry
 obtain ⟨its,r1,p1,_⟩:=I.tuple ha
 obtain ⟨its2,r2,p2,_⟩:=I.tuple hb
 refine HT.cat_tup p1 p2 (fun z=>hx (r1.nil_iff.mp z)) (fun z=>⟨.ref a,H,I,rfl,q1 (r2.nil_iff.mp z)⟩) (fun z=>?_) (by rw[←r1.length,←r2.length];exact hz)
 refine ⟨.ref s.heap.objs.size,_,I.laid (t':=s.toks) (o:=.tup (xs++ys)) (fun b ob q=>Heap.get?_push_of_some _ q) (Nat.le_refl _) ?_,rfl,q2 (fun w=>z (r2.nil_iff.mpr w)) _ (I.hok.fresh (Nat.le_refl _))⟩
 exact ⟨by rw[List.length_append];exact hz,_,r1.append r2,TupN.new _ _⟩
end
def ixN (n:Nat) (i:Int):Option Nat:=if 0≤i then (if i<n then some i.toNat else none) else if -(n:Int)≤i then some (i+n).toNat else none
def atI {α:Type} (xs:List α) (i:Int):Option α:=(ixN xs.length i).bind fun j=>xs[j]?
theorem nr {n:Nat} {i:Int} {j:Nat} (h:ixN n i=some j):seqIndex? i n=some j∧j<n ∧ -(n:Int)≤i∧i<n:=by
 unfold ixN at h
 by_cases h0:0≤i
 ·rw[if_pos h0] at h
  by_cases h1:i<n
  ·rw[if_pos h1] at h
   have e:i.toNat=j:=Option.some.inj h
   exact ⟨by rw[seqIndex_of h0 h1,e],by omega,by omega,h1⟩
  ·rw[if_neg h1] at h;cases h
 ·rw[if_neg h0] at h
  by_cases h1:-(n:Int)≤i
  ·rw[if_pos h1] at h
   have e:(i+n).toNat=j:=Option.some.inj h
   exact ⟨by rw[seqIndex_neg (by omega) h1,e],by omega,h1,by omega⟩
  ·rw[if_neg h1] at h;cases h
theorem jW {α:Type} {xs:List α} {i:Int} {v:α} (h:atI xs i=some v):∃j,seqIndex? i xs.length=some j∧xs[j]?=some v∧j<xs.length ∧ -(xs.length:Int)≤i∧i<xs.length:=by
 unfold atI at h
 cases e:ixN xs.length i with
 | none=>rw[e] at h;cases h
 | some j =>
  rw[e] at h
  obtain ⟨h1,h2,h3,h4⟩:=nr e
  exact ⟨j,h1,h,h2,h3,h4⟩
theorem cH {α:Type} {xs:List α} {j:Nat} {v:α} (h:xs[j]?=some v):atI xs (j:Int)=some v:=by
 have hj:j<xs.length:=(List.getElem?_eq_some_iff.mp h).1
 have e:ixN xs.length (j:Int)=some j:=by
  unfold ixN
  rw[if_pos (by omega),if_pos (by omega)];simp
 unfold atI;rw[e];exact h
def nK (b:Expr):Prop:=∀o i,subscripted b false o i=operate [o,i] (getItem o i)
def IxR (X:Cx) (r:R2):Prop :=
 ∀(value slice:Expr) (pins:List (Addr × Obj)) (s:Shared) (σ:St) (H:Hp) (x y:V) (v u:Value) (Q:VK),Inv X pins σ H s→RelV x v→RelV y u→r x y H Q →
  subscripted slice false v u=operate [v,u] (getItem v u)→wpAny (model X.prog X.w) X.A (subscriptTail value slice v u) (EP X pins σ Q) X.xe s
def MtR (X:Cx) (id:String) (r:V→List V→Hp→VK→Prop):Prop :=
 ∀(pins:List (Addr × Obj)) (s:Shared) (σ:St) (H:Hp) (x:V) (xs:List V) (v:Value) (us:List Value) (Q:VK),Inv X pins σ H s→RelV x v→Vals xs us→r x xs H Q →
  wpAny (model X.prog X.w) X.A (call (.builtin id) (v::us)) (EP X pins σ Q) X.xe s
section
variable {X:Cx} {a b:Expr} {ta tb:TE} {pos:Pos}
theorem IxR.or {r r':R2} (h:IxR X r) (h':IxR X r'):IxR X (fun x y H Q=>r x y H Q∨r' x y H Q):=by
 intro value slice pins s σ H x y v u Q I rx ry q hs
 rcases q with q|q
 ·exact h value slice pins s σ H x y v u Q I rx ry q hs
 ·exact h' value slice pins s σ H x y v u Q I rx ry q hs
theorem pe_ix {r:R2} (hr:IxR X r) (ha:PE X a ta) (hb:PE X b tb) (hs:nK b):PE X (.Subscript a b pos) (tOp r ta tb):=by
 intro pins s σ H Q I h
 exact Subscript_ (binT ha hb I h fun v u s2 x y H2 I2 rx ry q=>hr a b pins s2 σ H2 x y v u Q I2 rx ry q (hs _ _))
def rIxL (K:PySem.W.Frag):R2:=fun x y H Q=>∃p xs i v,x=.ref p∧y=.int i∧SqL K H p xs∧atI xs i=some v∧Q v H
def rIxT (K:PySem.W.Frag):R2:=fun x y H Q=>∃p xs i v,x=.ref p∧y=.int i∧SqT K H p xs∧atI xs i=some v∧Q v H
def rIxS:R2:=fun x y H Q=>∃z i c,x=.str z∧y=.int i∧z.length≤sizeLine∧atI z.cps.toList i=some c∧Q (.str ⟨#[c]⟩) H
theorem ix_list:IxR X (rIxL X.K):=by
 intro value slice pins s σ H x y v u Q I rx ry h hs
 obtain ⟨p,xs,i,z,rfl,rfl,hq,he,q⟩:=h
 cases rx
 obtain ⟨t,rfl⟩:=ry
 obtain ⟨its,r,pl,hz⟩:=I.list hq
 obtain ⟨j,h1,h2,h3,h4,h5⟩:=jW he
 obtain ⟨w,ew,rw'⟩:=r.get h2
 have hl:=r.length
 have hn:=gM
 have fin:EP X pins σ Q w s:=⟨z,H,I,rw',q⟩
 by_cases h0:0≤i
 ·have hj:i.toNat=j:=by
   rw[seqIndex_of h0 h5] at h1
   exact Option.some.inj h1
  exact item_listR pl.isList h0 (by omega) (by rw[hj];simpa using ew) fin hs
 ·have hj:(i+(its.toArray.size:Int)).toNat=j:=by
   rw[seqIndex_neg (by omega) h4] at h1
   rw[List.size_toArray,←hl]
   exact Option.some.inj h1
  exact subscriptTail_builtinR (x:=w) pl.isList.typeIs slot_list_getitem.lookup
   (wpAny_getItem_list_neg (Q:=fun r s'=>r=w∧EP X pins σ Q r s') pl.isList (by omega) (by rw[List.size_toArray] <;> omega) (by omega) (by rw[hj];simpa using ew) ⟨rfl,fin⟩) hs
theorem ix_tup:IxR X (rIxT X.K):=by
 intro value slice pins s σ H x y v u Q I rx ry h hs
 obtain ⟨p,xs,i,z,rfl,rfl,hq,he,q⟩:=h
 cases rx
 obtain ⟨t,rfl⟩:=ry
 obtain ⟨its,r,pl,hz⟩:=I.tuple hq
 obtain ⟨j,h1,h2,h3,h4,h5⟩:=jW he
 obtain ⟨w,ew,rw'⟩:=r.get h2
 have hl:=r.length
 have hn:=gM
 have fin:EP X pins σ Q w s:=⟨z,H,I,rw',q⟩
 exact subscriptTail_builtinR (x:=w) pl.typeIs slot_tuple_getitem.lookup
  (getItem_tuple (j:=j) (Q:=fun r s'=>r=w∧EP X pins σ Q r s') pl (by omega) (by omega) (by rw[List.size_toArray,←hl];exact h1) (by simpa using ew) ⟨rfl,fin⟩) hs
theorem ix_str:IxR X rIxS:=by
 intro value slice pins s σ H x y v u Q I rx ry h hs
 obtain ⟨z,i,c,rfl,rfl,hz,he,q⟩:=h
 obtain ⟨t,rfl⟩:=rx
 obtain ⟨t',rfl⟩:=ry
 obtain ⟨j,h1,h2,h3,h4,h5⟩:=jW he
 have hl:z.cps.toList.length=z.length:=by simp[Str.length]
 rw[hl] at h1 h4 h5
 have hn:=gM
 exact tail_any (typeIs_str s z t) slot_str_getitem.lookup (getItem_str (c:=c) (by
  have e1:decide (i < -(2 ^ 63:Int))=false:=decide_eq_false (by omega)
  have e2:decide (i≥2 ^ 63)=false:=decide_eq_false (by omega)
  rw[e1,e2,Bool.or_false]) (by rw[h1];simpa using h2) ⟨.str ⟨#[c]⟩,H,I.tok _,⟨_,rfl⟩,q⟩) hs
def rIx (K:PySem.W.Frag):R2:=fun x y H Q=>rIxL K x y H Q∨rIxT K x y H Q∨rIxS x y H Q
theorem ix_seq:IxR X (rIx X.K):=ix_list.or (ix_tup.or ix_str)
theorem oK (its:List Value) (n j:Nat) (u:Value):Obj.mapSeq (·.setIfInBounds j u) { cls:=.type "list",data:=.seq its.toArray n}={ cls:=.type "list",data:=.seq (its.set j u).toArray n}:=by
 simp[Obj.mapSeq]
theorem Inv.lst {pins:List (Addr × Obj)} {σ:St} {H:Hp} {s:Shared} {p:Addr} {xs:List V} (I:Inv X pins σ H s) (h:H p=some (.lst xs)) :
  ∃(its:List Value) (n:Nat),Vals xs its∧s.heap.get? p=some { cls:=.type "list",data:=.seq its.toArray n}∧xs.length≤sizeLine:=by
 obtain ⟨z,its,n,r,e⟩:=I.hok p _ h
 exact ⟨its,n,r,e,z⟩
theorem Inv.lstUpd {pins:List (Addr × Obj)} {σ:St} {H:Hp} {s:Shared} {p:Addr} {xs ys:List V} {its its':List Value} {n n':Nat} {f:Obj→Obj} (I:Inv X pins σ H s) (h:H p=some (.lst xs))
  (ho:s.heap.get? p=some { cls:=.type "list",data:=.seq its.toArray n}) (hf:f { cls:=.type "list",data:=.seq its.toArray n}={ cls:=.type "list",data:=.seq its'.toArray n'}) (r:Vals ys its') (hz:ys.length≤sizeLine) (t:Nat) :
  Inv X pins σ (upd H p (.lst ys)) { s with heap:=s.heap.update p f,toks:=t}:=by
 have e:(s.heap.update p f).get? p=some { cls:=.type "list",data:=.seq its'.toArray n'}:=by
  rw[Heap.get?_update_self f ho (by rw[hf] <;> rfl),hf]
 refine I.write (x:=p) (e:=p) (by rw[h];trivial) (.inl rfl) (fun b u hb q=>(Heap.get?_update_other _ _ (Ne.symm hb)).trans q) ⟨_,e⟩ ?_
 exact ⟨hz,its',n',r,e⟩
def rSetL:V→V→V→Hp→(Hp→Prop)→Prop:=fun o i v H Q=>∃p xs k j,o=.ref p∧i=.int k∧H p=some (.lst xs)∧ixN xs.length k=some j∧Q (upd H p (.lst (xs.set j v)))
theorem qN:PSet X rSetL:=by
 intro pins s σ H o i v ov iv u Q I ro ri rv h
 obtain ⟨p,xs,k,j,rfl,rfl,hp,hj,q⟩:=h
 cases ro
 obtain ⟨t,rfl⟩:=ri
 obtain ⟨its,n,r,ho,hz⟩:=I.lst hp
 obtain ⟨h1,h2,h3,h4⟩:=nr hj
 have hl:=r.length
 have hn:=gM
 have I':Inv X pins σ (upd H p (.lst (xs.set j v))) { s with heap:=s.heap.update p (Obj.mapSeq (·.setIfInBounds j u))} :=
  I.lstUpd hp ho (oK its n j u) (r.set rv j) (by rw[List.length_set];exact hz) s.toks
 by_cases h0:0≤k
 ·have hk:k.toNat=j:=by
   rw[seqIndex_of h0 h4] at h1
   exact Option.some.inj h1
  exact PySem.W.ki_setAt ho h0 (by omega) (by rw[List.size_toArray,←hl];exact h4) (by rw[hk];exact ⟨_,I',q⟩)
 ·have hk:(k+(its.toArray.size:Int)).toNat=j:=by
   rw[seqIndex_neg (by omega) h3] at h1
   rw[List.size_toArray,←hl]
   exact Option.some.inj h1
  exact PySem.W.ki_setBack ho (by omega) (by rw[List.size_toArray,←hl];exact h3) (by omega) (by rw[hk];exact ⟨_,I',q⟩)
theorem lQ (lo hi:Option Int) (n:Nat):(sliceBounds lo hi none n).1=((HT.sIx n 0 lo:Nat):Int)∧(sliceBounds lo hi none n).2.1=((HT.sIx n n hi:Nat):Int)∧(sliceBounds lo hi none n).2.2=1:=by
 refine ⟨?_,?_,rfl⟩
 ·cases lo with
  | none=>simp[sliceBounds,HT.sIx]
  | some i =>
   simp only[sliceBounds,HT.sIx,Option.getD_none,show (1:Int)>0 by decide,if_true]
   by_cases h:i<0
   ·simp only[h,if_true] <;> omega
   ·simp only[h,if_false] <;> omega
 ·cases hi with
  | none=>simp[sliceBounds,HT.sIx]
  | some i =>
   simp only[sliceBounds,HT.sIx,Option.getD_none,show (1:Int)>0 by decide,if_true]
   by_cases h:i<0
   ·simp only[h,if_true] <;> omega
   ·simp only[h,if_false] <;> omega
theorem kD (its:List Value) (lo hi:Option Int):slicePick its.toArray lo hi none=((its.drop (HT.sIx its.length 0 lo)).take (HT.sIx its.length its.length hi - HT.sIx its.length 0 lo)).toArray:=by
 obtain ⟨h1,h2,h3⟩:=lQ lo hi its.toArray.size
 unfold slicePick
 rw[h1,h2,h3]
 simp only[sliceRange_one,pick_run,List.size_toArray] <;> rfl
def rSlL (K:PySem.W.Frag):V→Option Int→Option Int→Hp→VK→Prop:=fun x lo hi H Q=>∃a xs,x=.ref a∧SqL K H a xs∧∀p,H p=none→Q (.ref p) (upd H p (.lst (cutV xs lo hi)))
theorem mL:SlR X (rSlL X.K):=by
 intro pins s σ H x v vl vu lo hi sl Q I rx hs pl pu h
 obtain ⟨a,xs,rfl,hx,q⟩:=h
 cases rx
 obtain ⟨its,r,ht,hz⟩:=I.list hx
 have hlen:=r.length
 refine ⟨"list",_,slot_list_getitem.lookup,ht.isList.typeIs,?_⟩
 refine wpAny_getItem_list_slice ht.isList hs pl pu .none (by simp) ?_ (by rw[List.size_toArray] <;> omega)
 rw[kD,←hlen]
 refine ⟨.ref s.heap.objs.size,_,I.laid (t':=s.toks) (o:=.lst (cutV xs lo hi)) (fun b ob q=>Heap.get?_push_of_some _ q) (Nat.le_refl _) ?_,rfl,q _ (I.hok.fresh (Nat.le_refl _))⟩
 exact ⟨Nat.le_trans (iH xs lo hi) hz,_,0,(r.drop (HT.sIx xs.length 0 lo)).take (HT.sIx xs.length xs.length hi - HT.sIx xs.length 0 lo),Heap.get?_push_size _ rfl⟩
theorem ld:cW X (.type "list") (fun xs H Q=>∃p ys,xs=[.ref p]∧(SqL X.K H p ys∨SqT X.K H p ys)∧∀l,H l=none→Q (.ref l) (upd H l (.lst ys))):=by
 intro pins s σ H xs us Q I r h
 obtain ⟨p,ys,rfl,hq,q⟩:=h
 obtain ⟨u,rfl,rx⟩:=iw r
 cases rx
 have fin:∀(its:List Value),Vals ys its→ys.length≤sizeLine→∀(h':Heap) (c':Nat),(∀b o',s.heap.get? b=some o'→h'.get? b=some o') →
   h'.get? s.heap.objs.size=some { cls:=.type "list",dict:=none,data:=.seq its.toArray c',slots:=#[]}→EP X pins σ Q (.ref s.heap.objs.size) { s with heap:=h'}:=fun its r' hz h' c' kp e =>
  ⟨.ref s.heap.objs.size,_,I.laid (t':=s.toks) kp (Nat.le_refl _) (show ObjOk X.prog X.w _ h' _ (.lst ys) from ⟨hz,its,c',r',e⟩),rfl,q _ (I.hok.fresh (Nat.le_refl _))⟩
 rcases hq with hq|hq
 ·obtain ⟨its,r',pl,hz⟩:=I.list hq
  have hlen:=r'.length
  obtain ⟨o,ho,hc,n,hd⟩:=pl.isList
  exact call_list_seq p (.inl rfl) ho hc hd (fun h' c' kp e=>fin its r' hz h' c' kp e) (by simp only[List.size_toArray] <;> omega)
 ·obtain ⟨its,r',pl,hz⟩:=I.tuple hq
  have hlen:=r'.length
  obtain ⟨o,ho,hc,n,hd⟩:=pl
  exact call_list_seq p (.inr rfl) ho hc hd (fun h' c' kp e=>fin its r' hz h' c' kp e) (by simp only[List.size_toArray] <;> omega)
theorem gF:cW X (.type "tuple") (fun xs H Q=>∃p ys,xs=[.ref p]∧((SqL X.K H p ys∧∀l,H l=none→Q (.ref l) (upd H l (.tup ys)))∨(SqT X.K H p ys∧Q (.ref p) H))):=by
 intro pins s σ H xs us Q I r h
 obtain ⟨p,ys,rfl,h⟩:=h
 obtain ⟨u,rfl,rx⟩:=iw r
 cases rx
 rcases h with ⟨hq,q⟩|⟨hq,q⟩
 ·obtain ⟨its,r',pl,hz⟩:=I.list hq
  have hlen:=r'.length
  refine call_tuple_list pl.isList (fun h' kp=>?_) (by simp only[List.size_toArray] <;> omega)
  have I1:Inv X pins σ H { s with heap:=h'}:=I.kept (t':=s.toks) kp
  have I2:Inv X pins σ (upd H h'.objs.size (.tup ys)) { s with heap:=h'.push { cls:=.type "tuple",data:=.seq its.toArray}} :=
   I1.laid (t':=s.toks) (fun b o e=>Heap.get?_push_of_some _ e) (Nat.le_refl _) (show ObjOk X.prog X.w _ _ _ (.tup ys) from ⟨hz,its,r',TupN.new _ _⟩)
  exact ⟨.ref h'.objs.size,_,I2,rfl,q _ (I1.hok.fresh (Nat.le_refl _))⟩
 ·obtain ⟨its,r',pl,hz⟩:=I.tuple hq
  exact call_tuple_same pl ⟨.ref p,H,I,rfl,q⟩
def tyV (K:PySem.W.Frag) (T:String) (x:V) (H:Hp):Prop:=match x with
 | .str _=>T="str"
 | .int _=>T="int"
 | .ref p=>(T="list"∧∃xs,SqL K H p xs)∨(T="tuple"∧∃o,K.lookup p=some o∧o.cls=.type "tuple"∧o.dict=none) ∨
   (T="dict"∧((∃kvs,H p=some (.dK kvs))∨∃kvs,H p=some (.dT kvs)))∨(T="set"∧∃S n,H p=some (.set S n))
 | _=>False
theorem tyV_is {pins:List (Addr × Obj)} {σ:St} {H:Hp} {s:Shared} {T:String} {x:V} {v:Value} (I:Inv X pins σ H s) (r:RelV x v) (ty:tyV X.K T x H) :
  s.TypeIs v T∧∀a,v=.ref a→∃ob,s.heap.get? a=some ob∧ob.dict=none:=by
 cases x with
 | str z =>
  obtain ⟨t,rfl⟩:=r
  cases (show T="str" from ty)
  exact ⟨typeIs_str s z t,fun _ e=>nomatch e⟩
 | int i =>
  obtain ⟨t,rfl⟩:=r
  cases (show T="int" from ty)
  exact ⟨typeIs_int s i t,fun _ e=>nomatch e⟩
 | ref p =>
  cases r
  rcases ty with ⟨rfl,xs,hq⟩|⟨rfl,o,hk,hc,hd⟩|⟨rfl,hk⟩|⟨rfl,S,n,hk⟩
  ·obtain ⟨its,_,pl,_⟩:=I.list hq
   refine ⟨pl.isList.typeIs,fun a e=>?_⟩
   cases e
   obtain ⟨o,n,e,c,hd,_⟩:=pl
   exact ⟨o,e,hd⟩
  ·refine ⟨⟨o,I.kIn p o hk,hc⟩,fun a e=>?_⟩
   cases e
   exact ⟨o,I.kIn _ o hk,hd⟩
  ·have z:∃o,s.heap.get? p=some o∧o.ExactDict:=by
    rcases hk with ⟨kvs,hk⟩|⟨kvs,hk⟩
    ·obtain ⟨_,_,_,_,o,_,_,e,ex,_⟩:=I.hok p _ hk
     exact ⟨o,e,ex⟩
    ·obtain ⟨_,_,_,_,o,_,_,e,ex,_⟩:=I.hok p _ hk
     exact ⟨o,e,ex⟩
   obtain ⟨o,e,ex⟩:=z
   refine ⟨⟨o,e,ex.1⟩,fun a e2=>?_⟩
   cases e2
   exact ⟨o,e,ex.2.1⟩
  ·obtain ⟨o,_,_,_,e,ex,_⟩:=I.hok p _ hk
   refine ⟨⟨o,e,ex.1⟩,fun a e2=>?_⟩
   cases e2
   exact ⟨o,e,ex.2.1⟩
 | _=>exact False.elim ty
def tBM (K:PySem.W.Frag) (T:String) (r:V→List V→Hp→VK→Prop) (to:TE) (t:TA):TE:=fun σ H Q=>to σ H fun x H1=>tyV K T x H1∧t σ H1 fun xs H2=>r x xs H2 Q
variable {o e:Expr} {es:List Expr} {to:TE} {t:TA} {name:Str} {apos cpos:Pos} {T id:String} {r:V→List V→Hp→VK→Prop}
theorem pe_bm (pa:PlainAttrs T) (slot:Slot T name id) (hty:typeOf (.builtin id)=pure (.type "method_descriptor")) (hm:MtR X id r) (ho:PE X o to) (ha:PA X (e::es) t)
  (hbase:attributeBase o name X.env (eval o X.env)=eval o X.env:=by rfl)
  (hfew:((backTo cpos (starEach (e::es) X.env)).all (fun x=>!x.1) && (backToKw cpos (keywordEach [] X.env)).all (fun x=>x.1.isSome)
   && decide ((e::es).length+([]:List Keyword).length+(if ([]:List Keyword).isEmpty then 0 else 1)<30))=true:=by rfl)
  (hline:(apos.endLine == cpos.line)=true:=by rfl) (hs:starEach (e::es) X.env=(false,eval e X.env)::starEach es X.env:=by rfl) (hplain:(backTo cpos (starEach es X.env)).any (·.1)=false:=by rfl) :
  PE X (.Call (.Attribute o name apos) (e::es) [] cpos) (tBM X.K T r to t):=by
 intro pins s σ H Q I h
 refine wpAny_Call_method_late hbase hfew hline rfl (thn (ho pins s σ H _ I h) fun v s1 ⟨x,H1,I1,r1,ty,q1⟩=>?_)
 obtain ⟨h1,h2⟩:=tyV_is I1 r1 ty
 refine ⟨T,id,pa,slot,hty,h1,h2,?_⟩
 have hA:=ha cpos pins s1 σ H1 _ I1 q1
 rw[hs] at hA ⊢
 refine Calls.callWith_builtin (by show (false || (backTo cpos (starEach es X.env)).any (·.1))=false;rw[hplain] <;> rfl) (Calls.evalArgs_plain ?_)
 exact thn hA fun us s2 ⟨vs,H2,I2,r2,q2⟩=>hm pins s2 σ H2 x vs v us Q I2 r1 r2 q2
end
def MtM (X:Cx) (id:String) (r:V→List V→Hp→VK→Prop):Prop :=
 ∀(pins:List (Addr × Obj)) (s:Shared) (σ:St) (H:Hp) (x:V) (xs:List V) (v:Value) (us:List Value) (Q:VK),Inv X pins σ H s→RelV x v→Vals xs us→r x xs H Q →
  wpAny (model X.prog X.w) X.A (call (.builtin id) (v::us)) (EP X pins σ Q) X.xe s
theorem Vals.one:∀{x:V} {us:List Value},Vals [x] us→∃u,us=[u]∧RelV x u
 | _,_,.cons r .nil=>⟨_,rfl,r⟩
theorem Vals.zero:∀{us:List Value},Vals [] us→us=[]
 | _,.nil=>rfl
theorem Vals.rep {xs:List V} {us:List Value} (h:Vals xs us):∀k:Nat,Vals (List.replicate k xs).flatten (List.replicate k us).flatten
 | 0=>.nil
 | k+1=>by
  rw[List.replicate_succ,List.replicate_succ,List.flatten_cons,List.flatten_cons]
  exact Vals.append h (Vals.rep h k)
theorem kj (its:List Value):∀(k:Nat) (acc:List Value),
  List.foldl (fun x1 x2=>x1++x2) acc.toArray (List.replicate k its.toArray)=(acc++(List.replicate k its).flatten).toArray
 | 0,acc=>by simp
 | k+1,acc=>by
  have e:acc.toArray++its.toArray=(acc++its).toArray:=by simp
  have e2:(acc++its)++(List.replicate k its).flatten=acc++(List.replicate (k+1) its).flatten:=by
   rw[List.replicate_succ,List.flatten_cons,List.append_assoc]
  rw[←e2,←kj its k (acc++its),←e,List.replicate_succ,List.foldl_cons]
section
variable {X:Cx} {pins:List (Addr × Obj)} {σ:St} {H:Hp} {s:Shared} {l b:Addr} {xs ys zs:List V}
theorem Inv.lset {its its':List Value} {n:Nat} {f:Array Value→Array Value} {t':Nat} (I:Inv X pins σ H s) (hH:H l=some (.lst xs))
  (e:s.heap.get? l=some { cls:=.type "list",data:=.seq its.toArray n}) (hf:f its.toArray=its'.toArray) (hv:Vals ys its') (hz:ys.length≤sizeLine) :
  Inv X pins σ (upd H l (.lst ys)) { s with heap:=s.heap.update l (Obj.mapSeq f),toks:=t'}:=by
 have q:=PySem.IsL.update e f
 rw[hf] at q
 refine I.write (x:=l) (e:=l) (by rw[hH];exact trivial) (.inl rfl) (fun b' u hb hu=>(Heap.get?_update_other s.heap (Obj.mapSeq f) (Ne.symm hb)).trans hu) ⟨_,q⟩ ?_
 exact ⟨hz,its',_,hv,q⟩
theorem Inv.lnew {its:List Value} {t':Nat} (I:Inv X pins σ H s) (hv:Vals ys its) (hz:ys.length≤sizeLine) :
  Inv X pins σ (upd H s.heap.objs.size (.lst ys)) { s with heap:=s.heap.push { cls:=.type "list",data:=.seq its.toArray},toks:=t'} :=
 I.laid (fun _ _ q=>Heap.get?_push_of_some _ q) (Nat.le_refl _) ⟨hz,its,0,hv,Heap.get?_push_size _ rfl⟩
theorem Inv.fresh (I:Inv X pins σ H s):H s.heap.objs.size=none:=I.hok.fresh (Nat.le_refl _)
theorem Inv.lstM (I:Inv X pins σ H s) (hH:H l=some (.lst xs)):xs.length≤sizeLine∧∃(its:List Value) (n:Nat),Vals xs its∧xs.length=its.length∧s.heap.get? l=some { cls:=.type "list",data:=.seq its.toArray n}:=by
 obtain ⟨z,its,n,r,e⟩:=I.hok l _ hH
 exact ⟨z,its,n,r,r.length,e⟩
theorem rF {n:Nat} (h:n≤sizeLine):Builtin.List.listTooLong n=false:=by
 unfold Builtin.List.listTooLong
 exact decide_eq_false (by omega)
end
section
variable {X:Cx}
def rAppend:V→List V→Hp→VK→Prop:=fun x vs H Q=>∃l xs y,x=.ref l∧vs=[y]∧H l=some (.lst xs)∧xs.length<sizeLine∧Q .non (upd H l (.lst (xs++[y])))
theorem kh:MtM X "list.append" rAppend:=by
 intro pins s σ H x vs v us Q I rx rv h
 obtain ⟨l,xs,y,rfl,rfl,hH,hz,q⟩:=h
 cases rx
 obtain ⟨u,rfl,ru⟩:=rv.one
 obtain ⟨z,its,n,r,hl,e⟩:=I.lstM hH
 refine call_meets F.slot_list_append ⟨_,e,rfl⟩ F.entry_list_append (F.args_list_append_2 _ _) (PySem.list_append l its.toArray n u (by rw[List.size_toArray];omega)) ⟨e,?_⟩
 refine ⟨.non,_,I.lset (its':=its++[u]) hH e (by simp) (r.append (.cons ru .nil)) ?_,rfl,q⟩
 rw[List.length_append,List.length_singleton]
 omega
def rCat:R2:=fun x y H Q=>∃l b xs zs,x=.ref l∧y=.ref b∧H l=some (.lst xs)∧H b=some (.lst zs)∧xs.length+zs.length≤sizeLine∧∀p,H p=none→Q (.ref p) (upd H p (.lst (xs++zs)))
theorem op_cat:OpR X (binaryOp .Add) rCat:=by
 intro pins s σ H x y v u Q I rx ry h
 obtain ⟨l,b,xs,zs,rfl,rfl,hH,hB,hz,q⟩:=h
 cases rx
 cases ry
 obtain ⟨z,its,n,r,hl,e⟩:=I.lstM hH
 obtain ⟨z2,its2,n2,r2,hl2,e2⟩:=I.lstM hB
 refine PySem.P.add_list e e2 ?_ (by rw[List.size_toArray,List.size_toArray];omega)
 have ea:its.toArray++its2.toArray=(its++its2).toArray:=by simp
 rw[ea]
 exact ⟨.ref _,_,I.lnew (t':=s.toks) (r.append r2) (by rw[List.length_append];omega),rfl,q _ I.fresh⟩
def rRep:R2:=fun x y H Q=>∃l k xs,x=.ref l∧y=.int k∧H l=some (.lst xs) ∧ -(2 ^ 63)≤k∧k<2 ^ 63∧xs.length * k.toNat≤sizeLine ∧
 ∀p,H p=none→Q (.ref p) (upd H p (.lst (List.replicate k.toNat xs).flatten))
theorem mW {α:Type} (xs:List α) (k:Nat):(List.replicate k xs).flatten.length=k * xs.length:=by
 induction k with
 | zero=>simp
 | succ k ih=>rw[List.replicate_succ,List.flatten_cons,List.length_append,ih,Nat.succ_mul,Nat.add_comm]
theorem op_rep:OpR X (binaryOp .Mult) rRep:=by
 intro pins s σ H x y v u Q I rx ry h
 obtain ⟨l,k,xs,rfl,rfl,hH,h1,h2,hz,q⟩:=h
 cases rx
 obtain ⟨t,rfl⟩:=ry
 obtain ⟨z,its,n,r,hl,e⟩:=I.lstM hH
 have hlen:its.toArray.size * k.toNat≤sizeLine:=by rw[List.size_toArray,←hl];exact hz
 have hcap:¬its.toArray.size * k.toNat>(2 ^ 63 - 1) / 8:=by
  have:(sizeLine:Nat)≤(2 ^ 63 - 1) / 8:=by decide
  omega
 have hfit:¬(!Builtin.List.listFitsIndex k)=true:=by
  rw[fitsIndex_both h1 h2]
  exact Bool.false_ne_true
 have hlong:¬Builtin.List.listTooLong (its.toArray.size * k.toNat)=true:=by
  rw[rF hlen]
  exact Bool.false_ne_true
 have hnew:List.foldl (fun x1 x2=>x1++x2) #[] (List.replicate (if its.toArray.isEmpty=true then 0 else k.toNat) its.toArray)=(List.replicate k.toNat its).flatten.toArray:=by
  have f0:∀m:Nat,List.foldl (fun x1 x2=>x1++x2) #[] (List.replicate m its.toArray)=(List.replicate m its).flatten.toArray:=fun m=>by
   have:=kj its m []
   rw[List.nil_append] at this
   exact this
  rw[f0]
  cases its with
  | nil=>simp
  | cons a r'=>rw[if_neg (by simp)]
 refine wpAny_binaryOp_repeat_ref (T:="list") (U:="int") (by decide) ⟨_,e,rfl⟩ (fun s'=>typeIs_int s' k t) noFill_list_mul F.fills_int_mul F.slot_int_rmul repeat_list F.slot_int_index.lookup
  (call_meets F.slot_int_rmul (typeIs_int s k t) F.entry_int_rmul (F.args_int_rmul_2 _ _) (int___rmul___int_list k t l its.toArray n)
   ⟨e,rfl,⟨_,e,rfl⟩,call_meets F.slot_list_mul ⟨_,e,rfl⟩ F.entry_list_mul (F.args_list_mul_2 _ _) (AutoListH.list___mul___list_int_3 l its.toArray n k t hfit hcap hlong) ⟨e,?_⟩⟩)
 rw[hnew]
 exact ⟨.ref _,_,I.lnew (t':=s.toks) (r.rep k.toNat) (by rw[mW,Nat.mul_comm];exact hz),rfl,q _ I.fresh⟩
end
section
variable {prog:Program} {w:World} {A:Around} {E:Value→Shared→Prop} {s:Shared}
end
section
variable {X:Cx}
end
end L2
namespace Att
open PySem PySem.W PySem.Calls PyProof.Rows
theorem i9 {P:Params} {h:Heap}:∀(ns:List Int) (vs:List Value),WellAll P h vs (ns.map WData.int)→IntsAre vs ns:=by
 intro ns
 induction ns with
 | nil =>
  intro vs w
  rw[List.map_nil] at w
  cases w
  exact .nil
 | cons n ns ih =>
  intro vs w
  rw[List.map_cons] at w
  cases w with
  | cons a b =>
   cases a
   exact .cons _ _ (ih _ b)
theorem pR {l:OpenLaw} {n:Nat} (hn:l.most=some n) {P:Params} {h:Heap} {args:List WData} {vals:List Value}
  (hpre:l.row.toRowW.claim.pre args=true) (hwl:WellAll P h vals args) :
  ∃a vs ns,vals=[Value.ref a]∧args=[WData.list (ns.map WData.int)]∧h.get? a=some { cls:=.type "list",data:=.seq vs.toArray}∧IntsAre vs ns∧ns.length≤n:=by
 have hsh:WShape.hasAll [] args [.list .int]=true:=(pre_splitW hpre).1
 have hc:l.pre.holds [] { args:=args}=true:=(pre_splitW hpre).2
 obtain ⟨d,r,rfl,h1,h2⟩:=hasAllW_cons hsh
 obtain rfl:=hasAllW_nil h2
 obtain ⟨xs,rfl,h3⟩:=hasW_list h1
 obtain ⟨ns,rfl⟩:=items_int h3
 have hlen:ns.length≤n:=by
  unfold OpenLaw.pre at hc
  have h4:(WTm.not (.lt (.lit (.int (n:Int))) (.len (.arg 0)))).holds [] { args:=[.list (ns.map .int)]}=true:=by
   have h4:=(holds_andW hc).1
   rw[hn] at h4
   exact h4
  have h5:=condW_of h4 (w_not (w_lt w_lit (w_len_list (w_arg rfl))))
  rw[List.length_map] at h5
  refine Nat.le_of_not_lt fun q=>?_
  have q':(n:Int)<((ns.length:Nat):Int):=by omega
  first
   | (rw[decide_eq_true q'] at h5;exact absurd h5 (by decide))
   | (simp at h5;omega)
 cases hwl with
 | cons w1 w2 =>
  cases w2
  cases w1 with
  | list ho hall=>exact ⟨_,_,ns,rfl,rfl,ho,i9 ns _ hall,hlen⟩
theorem pP (l:OpenLaw) (args:List WData):l.row.toRowW.claim.post args (.bool true) args=true :=
 postW_of (r:=l.row.toRowW) (X:=(true == true))
  (show WShape.has [] (.bool true) .bool=true by first | rfl | decide | simp[WShape.has,WShape.arms,WShape.armsAll])
  (show (WTm.eq .res (.lit (.bool true))).value [] { args:=args,res:=some (.bool true),after:=args}=some (.bool (true == true)) from w_eq_bool (w_res rfl) w_lit) rfl
theorem md {l:OpenLaw} {n:Nat} {q:Program} {loose:List Str} {XP:(Str→Option Value)→Heap→Prop} {YP:World→Heap→Prop} {d:DefRec}
  (hn:l.most=some n) (hdf:d.params.defaults=[])
  (call:∀(w:World) (s₀ s₁:Shared) (mg mb:Str→Option Value) (fa:Addr) (o:Obj) (pm cd doc:Value) (a:Addr) (vs:List Value) (ns:List Int),
   Ground q loose [] XP w s₀ mg mb s₁.heap→YP w s₁.heap →
   s₁.heap.get? fa=some o→o.data=.func (docDef d.name d.params d.body d.scope pm cd doc)→s₁.heap.CodeRec cd d.name→mg d.name=some (.ref fa) →
   s₁.heap.get? a=some { cls:=.type "list",data:=.seq vs.toArray}→IntsAre vs ns→ns.length≤n→s₁.gens=#[] →
   codeAny (model l.prog w) callerA (.call (.ref fa) ⟨[.ref a],[]⟩) (fun r s'=>r=.ok (.ret (.bool true))∧OldK s₁.heap s'.heap∧s'.os=s₁.os∧AllBare s'.gens) s₁) :
  WalkO q loose XP YP l.row.toRowW d [] (fun f vs=>PySem.call f vs):=by
 intro w s₀ s₁ mg mb G Y fa o pm cd doc dV kV ho hd hcd hD hmg hg args vals as hpre hlay hrd hwl hlo
 obtain rfl:dV=.none:=Dflts.none hD hdf
 obtain rfl:kV=.none:=Dflts.noKw hD
 obtain ⟨a,vs,ns,rfl,rfl,hobj,hints,hlen⟩:=pR hn hpre hwl
 refine enter_call (codeAny_mono (call w s₀ s₁ mg mb fa o pm cd doc a vs ns G Y ho (fd_plain hd) hcd hmg hobj hints hlen hg) fun r s' hq=>?_)
 obtain ⟨rfl,h2,h3,h4⟩:=hq
 exact ⟨.inl ⟨.bool true,.bool true,[],rfl,fun _=>rfl,.bool true,pP l _,fun _=>⟨List.Pairwise.nil,fun _ hm=>(nomatch hm)⟩⟩,h2,h3,h4⟩
section
variable {prog:Program} {w:World} {A:Around} {E:Value→Shared→Prop} {s:Shared} {K:Frag}
end
end Att
namespace L2
open PySem PySem.Spec PyProof.Rows
theorem kl:∀{vs:List Value} {ns:List Int},IntsAre vs ns→Vals (ns.map V.int) vs
 | _,_,.nil=>.nil
 | _,_,.cons n t h=>.cons ⟨t,rfl⟩ (kl h)
def Only (H:Hp):Prop:=∀b,H b=none∨∃o xs,H b=some (.frz o (.lst xs))
theorem rP {P:Program} {w:World} {K:PySem.W.Frag} {mg mb:Str→Option Value} {CX:CXT} {k:Nat} {fa a:Addr} {fd:FuncData} {x:Str} {sp:Sp} {s₁:Shared} {vs:List Value} {ns:List Int}
  (KX:K.In s₁.heap) (hns:s₁.heap.Ns mainGlobals mg) (hb:s₁.heap.Ns builtinsNs mb) (hbb:∀x:Str,x≠"__name__"→mb x=bootBuiltins x) (hlim:s₁.heap.NoLimit) (hg:s₁.gens=#[])
  (ha:s₁.heap.get? a=some { cls:=.type "list",data:=.seq vs.toArray}) (hi:IntsAre vs ns) (hl:ns.length≤sizeLine) (hr:Room k callerA)
  (F:∀base:Heap,K.In base→base.Ns mainGlobals mg→FnOk P w K mg base CX k fa fd [x] sp) (hbind:∀(s:Shared) (u:Value),BindsTo s fd ⟨[u],[]⟩ [(x,u)])
  (hsp:∀H:Hp,Only H→SqL K H a (ns.map V.int)→sp [.ref a] H (fun v _=>v=.bl true) fun _ _ _=>False)
  (hCX:∀H e s',CX [] H s₁ (fun _ _ _=>False) e s'→False) :
  codeAny (model P w) callerA (.call (.ref fa) ⟨[.ref a],[]⟩) (fun r s'=>r=.ok (.ret (.bool true))∧OldK s₁.heap s'.heap∧s'.os=s₁.os∧AllBare s'.gens) s₁:=by
 have rv:=kl hi
 have lenV:=hi.length
 have core:∀H:Hp,Only H→SqL K H a (ns.map V.int)→HOk P w H s₁.heap→(∀b,H b≠none→b=a)→(H a≠none→K.lookup a=none) →
   codeAny (model P w) callerA (.call (.ref fa) ⟨[.ref a],[]⟩) (fun r s'=>r=.ok (.ret (.bool true))∧OldK s₁.heap s'.heap∧s'.os=s₁.os∧AllBare s'.gens) s₁:=by
  intro H hO hS hok hA hK
  have base_of:∀{b:Addr} {o:Obj},s₁.heap.get? b=some o→H b=none→(hidT s₁.heap H).get? b=some o:=fun e n=>qy e n
  have noA:∀{b:Addr} {o:Obj} {es:Array DictEntry} {ep:Nat},s₁.heap.get? b=some o→o.data=.dict es ep→H b=none:=fun {b o es ep} e d=>by
   cases q:H b with
   | none=>rfl
   | some u =>
    have e':b=a:=hA b (by rw[q];simp)
    subst e'
    rw[ha] at e;cases e
    have d':Data.seq vs.toArray _=Data.dict es ep:=d
    cases d'
  have nsK:∀{b:Addr} {m:Str→Option Value},s₁.heap.Ns b m→(hidT s₁.heap H).Ns b m:=fun {b m} ⟨o,es,ep,e,d,r⟩=>⟨o,es,ep,base_of e (noA e d),d,r⟩
  have hKb:K.In (hidT s₁.heap H):=fun b o e=>base_of (KX b o e) (by
   cases q:H b with
   | none=>rfl
   | some u =>
    have e':b=a:=hA b (by rw[q];simp)
    subst e'
    rw[hK (by rw[q];simp)] at e;cases e)
  have hM:Mod K mg (hidT s₁.heap H):=⟨hKb,nsK hns,⟨mb,nsK hb,hbb⟩,let ⟨mc,h1,h2⟩:=hlim;⟨mc,nsK h1,h2⟩⟩
  have e0:Env0 P w K mg (hidT s₁.heap H) callerA [] s₁ H:=⟨rfl,hM,fun b o e=>of_hidT e,Nat.le_of_eq (o9 _ _),trivial,fun b hb=>absurd (show b∈([]:List Addr) from hb) (by simp),hok,.of_eq hg⟩
  refine codeAny_mono ((F _ hKb (nsK hns)).run callerA [] s₁ H ⟨[.ref a],[]⟩ [.ref a] [.ref a] _ _ hr e0 (hbind s₁ (.ref a)) (.cons rfl .nil) (hsp H hO hS)) fun r s' h=>?_
  cases r with
  | error e=>exact (hCX H e s' h).elim
  | ok fl =>
   cases fl with
   | next=>exact False.elim h
   | brk=>exact False.elim h
   | cont=>exact False.elim h
   | ret u =>
    obtain ⟨v,H',os,bare,un,hok',r',q⟩:=h
    have q':v=.bl true:=q
    subst q'
    obtain rfl:u=Value.bool true:=r'
    refine ⟨rfl,OldK.of_keep fun b o e=>?_,os,bare⟩
    cases q:H b with
    | none=>exact un.keep b o e q (by intro z;exact absurd (show b∈([]:List Addr) from z) (by simp)) (by simp)
    | some u =>
     rcases hO b with z|⟨ob,xs,z⟩
     ·rw[q] at z;cases z
     ·have z2:=un.frzs b ob _ z
      obtain ⟨e1,_⟩:=hok b _ z
      obtain ⟨e2,_⟩:=hok' b _ z2
      rw[e] at e1;cases e1
      exact e2
 cases hk:K.lookup a with
 | some o =>
  have e:=KX a o hk
  rw[ha] at e
  cases e
  refine core (fun _=>none) (fun _=>.inl rfl) (.inr ⟨_,vs.toArray,_,hk,rfl,rfl,rfl,by rw[List.size_toArray,lenV];exact hl,by simpa using rv⟩) (fun b u z=>by have z':(none:Option HO)=some u:=z;cases z') (fun b z=>absurd rfl z) fun z=>absurd rfl z
 | none =>
  refine core (fun b=>if b=a then some (.frz { cls:=.type "list",data:=.seq vs.toArray} (.lst (ns.map V.int))) else none) (fun b=>?_) (.inl (.inr ⟨{ cls:=.type "list",data:=.seq vs.toArray},if_pos rfl⟩)) (fun b u z=>?_) (fun b z=>?_) fun _=>hk
  ·by_cases hb:b=a
   ·exact .inr ⟨_,_,if_pos hb⟩
   ·exact .inl (if_neg hb)
  ·by_cases hb:b=a
   ·have z':=(if_pos hb).symm.trans z
    cases z'
    subst hb
    exact ⟨ha,by rw[List.length_map];exact hl,vs,_,rv,ha⟩
   ·have z':=(if_neg hb).symm.trans z
    cases z'
  ·by_cases hb:b=a
   ·exact hb
   ·exact absurd (if_neg hb) z
abbrev KOf {K:PySem.W.Frag} {h:Heap} (_:K.In h):PySem.W.Frag:=K
theorem walk_of {l:PySem.W.OpenLaw} {n k:Nat} {q:Program} {loose:List Str} {XP:(Str→Option Value)→Heap→Prop} {YP:World→Heap→Prop} {d:DefRec} {K:Params→PySem.W.Frag} {CX:World→CXT} {sp:World→Sp} {x:Str}
  (hn:l.most=some n) (hn2:n≤sizeLine) (hdf:d.params.defaults=[]) (hr:Room k callerA)
  (hY:∀(w:World) (h:Heap),YP w h→(K w.params).In h)
  (F:∀(w:World) (mg:Str→Option Value) (fa:Addr) (h:Heap),(K w.params).In h→h.Ns mainGlobals mg→mg d.name=some (.ref fa) →
   ∃fd:FuncData,(∀(s:Shared) (u:Value),BindsTo s fd ⟨[u],[]⟩ [(x,u)]) ∧
    ∀base:Heap,(K w.params).In base→base.Ns mainGlobals mg→FnOk l.prog w (K w.params) mg base (CX w) k fa fd [x] (sp w))
  (hsp:∀(w:World) (H:Hp) (a:Addr) (ns:List Int),ns.length≤n→Only H→SqL (K w.params) H a (ns.map V.int)→sp w [.ref a] H (fun v _=>v=.bl true) fun _ _ _=>False)
  (hCX:∀(w:World) (H:Hp) (s:Shared) (e:Value) (s':Shared),CX w [] H s (fun _ _ _=>False) e s'→False) :
  PySem.W.WalkO q loose XP YP l.row.toRowW d [] (fun f vs=>PySem.call f vs):=by
 refine Att.md hn hdf fun w s₀ s₁ mg mb fa o pm cd doc a vs ns G Y ho hd hcd hmg hobj hints hlen hg=>?_
 have KX:=hY w _ Y
 obtain ⟨fd,hb,hF⟩:=F w mg fa _ KX G.T.g hmg
 exact rP KX G.T.g G.T.b G.T.builtins G.T.nolimit hg hobj hints (Nat.le_trans hlen hn2) hr hF hb (fun H hO hS=>hsp w H a ns hlen hO hS) fun H e s'=>hCX w H s₁ e s'
def eJ (s:Stmt):Arguments:=match s with
 | .FunctionDef _ a _ _ _ _ _ _ _ _=>a
 | _=>{ posonlyargs:=[],args:=[],vararg:=none,kwonlyargs:=[],kw_defaults:=[],kwarg:=none,defaults:=[]}
def aJ (s:Stmt):List Stmt:=match s with
 | .FunctionDef _ _ b _ _ _ _ _ _ _=>b
 | _=>[]
def al (s:Stmt):Scope:=match s with
 | .FunctionDef _ _ _ _ _ _ sc _ _ _=>sc
 | _=>{ kind:=.function,names:=[],isGenerator:=false,isCoroutine:=false}
structure Fun (K:PySem.W.Frag) (x qual:Str) (st:Stmt) (f:Addr) (fd:FuncData):Prop where
 ex:∃(oc:Value) (od:Option Addr) (kV doc pm:Value) (an:Option Addr) (cdv ct:Value) (osl:Array (Option Value)),
  fd=PySem.W.fnOf x qual (eJ st) (aJ st) (al st) .none kV doc pm an cdv ct∧K.lookup f=some ⟨oc,od,.func fd,osl⟩∧PySem.W.codeIn K cdv qual=true
 kp:PySem.W.keepIn K (.ref f)=true
section
variable {P:Program} {w:World} {K:PySem.W.Frag} {mg:Str→Option Value} {base:Heap}
theorem Fun.binds {x qual:Str} {st:Stmt} {f:Addr} {fd:FuncData} {ps:List Str} (F:Fun K x qual st f fd)
  (h:∀(kV doc pm:Value) (an:Option Addr) (cdv ct:Value) (us:List Value),us.length=ps.length→bindArgs (PySem.W.fnOf x qual (eJ st) (aJ st) (al st) .none kV doc pm an cdv ct) ⟨us,[]⟩=pure (ps.zip us)):jH K fd ps []:=by
 obtain ⟨oc,od,kV,doc,pm,an,cdv,ct,osl,rfl,lk,hcd⟩:=F.ex
 exact .all (h kV doc pm an cdv ct)
theorem fun_mk {x qual:Str} {st:Stmt} {f:Addr} {oc:Value} {od an:Option Addr} {osl:Array (Option Value)} {kV doc pm cdv ct:Value} (l:K.lookup f=some ⟨oc,od,.func (PySem.W.fnOf x qual (eJ st) (aJ st) (al st) .none kV doc pm an cdv ct),osl⟩)
  (c:PySem.W.codeIn K cdv qual=true) (k:PySem.W.keepIn K (.ref f)=true):Fun K x qual st f (PySem.W.fnOf x qual (eJ st) (aJ st) (al st) .none kV doc pm an cdv ct):=⟨⟨oc,od,kV,doc,pm,an,cdv,ct,osl,rfl,l,c⟩,k⟩
end
section
variable {X:Cx}
end
end L2
namespace MM
open PySem PySem.Spec PyProof.Rows L2
inductive PV where
 | non | bl (b:Bool) | int (i:Int) | str (x:Str) | tup (xs:List PV) | frl (xs:List PV) | loc (n:Nat)
structure MExc where
 cls:Str
 fs:List (Str × PV):=[]
inductive MO where
 | lst (xs:List PV)
 | dic (kvs:List (PV × PV))
 | exc (x:MExc)
abbrev MH:=List MO
abbrev PSt:=List (Option PV)
inductive Out (α:Type) where
 | ok (a:α) (h:MH)
 | exc (x:MExc) (h:MH)
 | bad
def Out.bind {α β:Type} (o:Out α) (f:α→MH→Out β):Out β:=match o with
 | .ok a h=>f a h
 | .exc x h=>.exc x h
 | .bad=>.bad
@[simp] theorem Out.bind_ok {α β:Type} (a:α) (h:MH) (f:α→MH→Out β):(Out.ok a h).bind f=f a h:=rfl
@[simp] theorem Out.bind_exc {α β:Type} (x:MExc) (h:MH) (f:α→MH→Out β):(Out.exc x h).bind f=.exc x h:=rfl
@[simp] theorem Out.bind_bad {α β:Type} (f:α→MH→Out β):(Out.bad:Out α).bind f=.bad:=rfl
inductive SOut where
 | nx (σ:PSt) (h:MH)
 | rt (v:PV) (h:MH)
 | bk (σ:PSt) (h:MH)
 | ct (σ:PSt) (h:MH)
 | exc (x:MExc) (σ:PSt) (h:MH)
 | rse (x:MExc) (σ:PSt) (h:MH)
 | bad
def Out.ne {α:Type} (o:Out α):Out α:=match o with
 | .exc _ _=>.bad
 | o=>o
@[simp] theorem Out.ne_ok {α:Type} (a:α) (h:MH):(Out.ok a h).ne=.ok a h:=rfl
@[simp] theorem Out.ne_bad {α:Type}:(Out.bad:Out α).ne=.bad:=rfl
@[simp] theorem Out.ne_ne {α:Type} (o:Out α):o.ne.ne=o.ne:=by cases o <;> rfl
def SqF (K:PySem.W.Frag) (H:Hp) (a:Addr) (ys:List V):Prop :=
 (∃o,H a=some (.frz o (.lst ys))) ∨
  ∃(o:Obj) (its:Array Value) (n:Nat),K.lookup a=some o∧o.cls=.type "list"∧o.dict=none∧o.data=.seq its n∧its.size≤sizeLine∧Vals ys its.toList
theorem SqF.sq {K:PySem.W.Frag} {H:Hp} {a:Addr} {ys:List V} (h:SqF K H a ys):SqL K H a ys:=by
 rcases h with h|h
 ·exact .inl (.inr h)
 ·exact .inr h
mutual
inductive RP (K:PySem.W.Frag) (ρ:List Addr) (H:Hp):PV→V→Prop where
 | non:RP K ρ H .non .non
 | bl (b:Bool):RP K ρ H (.bl b) (.bl b)
 | int (i:Int):RP K ρ H (.int i) (.int i)
 | str (x:Str):RP K ρ H (.str x) (.str x)
 | tup {xs:List PV} {a:Addr} {ys:List V} (s:SqT K H a ys) (r:RPs K ρ H xs ys):RP K ρ H (.tup xs) (.ref a)
 | frl {xs:List PV} {a:Addr} {ys:List V} (s:SqF K H a ys) (r:RPs K ρ H xs ys):RP K ρ H (.frl xs) (.ref a)
 | loc {n:Nat} {a:Addr} (e:ρ[n]?=some a):RP K ρ H (.loc n) (.ref a)
inductive RPs (K:PySem.W.Frag) (ρ:List Addr) (H:Hp):List PV→List V→Prop where
 | nil:RPs K ρ H [] []
 | cons {x:PV} {y:V} {xs:List PV} {ys:List V} (r:RP K ρ H x y) (t:RPs K ρ H xs ys):RPs K ρ H (x::xs) (y::ys)
end
structure Le (ρ:List Addr) (H:Hp) (ρ':List Addr) (H':Hp):Prop where
 pre:∃m,ρ'=ρ++m
 tup:∀a xs,H a=some (.tup xs)→H' a=some (.tup xs)
 frz:∀a o u,H a=some (.frz o u)→H' a=some (.frz o u)
theorem Le.refl (ρ:List Addr) (H:Hp):Le ρ H ρ H:=⟨⟨[],by simp⟩,fun _ _ h=>h,fun _ _ _ h=>h⟩
theorem Le.trans {ρ ρ1 ρ2:List Addr} {H H1 H2:Hp} (a:Le ρ H ρ1 H1) (b:Le ρ1 H1 ρ2 H2):Le ρ H ρ2 H2:=by
 obtain ⟨m,e⟩:=a.pre
 obtain ⟨m',e'⟩:=b.pre
 exact ⟨⟨m++m',by rw[e',e,List.append_assoc]⟩,fun c xs h=>b.tup c xs (a.tup c xs h),fun c o u h=>b.frz c o u (a.frz c o u h)⟩
theorem Le.get {ρ ρ':List Addr} {H H':Hp} (l:Le ρ H ρ' H') {n:Nat} {a:Addr} (e:ρ[n]?=some a):ρ'[n]?=some a:=by
 obtain ⟨m,e'⟩:=l.pre
 rw[e',List.getElem?_append_left (List.getElem?_eq_some_iff.mp e).1];exact e
theorem Le.sqt {K:PySem.W.Frag} {ρ ρ':List Addr} {H H':Hp} (l:Le ρ H ρ' H') {a:Addr} {xs:List V} (h:SqT K H a xs):SqT K H' a xs:=by
 rcases h with (h|⟨o,h⟩)|h
 ·exact .inl (.inl (l.tup _ _ h))
 ·exact .inl (.inr ⟨o,l.frz _ _ _ h⟩)
 ·exact .inr h
theorem Le.sqf {K:PySem.W.Frag} {ρ ρ':List Addr} {H H':Hp} (l:Le ρ H ρ' H') {a:Addr} {xs:List V} (h:SqF K H a xs):SqF K H' a xs:=by
 rcases h with ⟨o,h⟩|h
 ·exact .inl ⟨o,l.frz _ _ _ h⟩
 ·exact .inr h
section
variable {K:PySem.W.Frag} {ρ ρ':List Addr} {H H':Hp}
mutual
theorem RP.le (l:Le ρ H ρ' H'):∀{x:PV} {y:V},RP K ρ H x y→RP K ρ' H' x y
 | _,_,.non=>.non
 | _,_,.bl b=>.bl b
 | _,_,.int i=>.int i
 | _,_,.str x=>.str x
 | _,_,.tup s r=>.tup (l.sqt s) (RPs.le l r)
 | _,_,.frl s r=>.frl (l.sqf s) (RPs.le l r)
 | _,_,.loc e=>.loc (l.get e)
theorem RPs.le (l:Le ρ H ρ' H'):∀{xs:List PV} {ys:List V},RPs K ρ H xs ys→RPs K ρ' H' xs ys
 | _,_,.nil=>.nil
 | _,_,.cons r t=>.cons (RP.le l r) (RPs.le l t)
end
theorem RPs.length:∀{xs:List PV} {ys:List V},RPs K ρ H xs ys→xs.length=ys.length
 | _,_,.nil=>rfl
 | _,_,.cons _ t=>congrArg (·+1) (RPs.length t)
theorem RPs.get:∀{xs:List PV} {ys:List V} {i:Nat} {x:PV},RPs K ρ H xs ys→xs[i]?=some x→∃y,ys[i]?=some y∧RP K ρ H x y
 | _,_,_,_,.nil,e=>by simp at e
 | _,_,0,_,.cons r _,e=>by simp at e;subst e;exact ⟨_,rfl,r⟩
 | _,_,i+1,x,.cons _ t,e=>by
  obtain ⟨u,h1,h2⟩:=RPs.get (i:=i) (x:=x) t (by simpa using e)
  exact ⟨u,by simpa using h1,h2⟩
theorem RPs.set {x:PV} {u:V} (r:RP K ρ H x u):∀{xs:List PV} {us:List V} (i:Nat),RPs K ρ H xs us→RPs K ρ H (xs.set i x) (us.set i u)
 | _,_,_,.nil=>.nil
 | _,_,0,.cons _ t=>.cons r t
 | _,_,i+1,.cons q t=>.cons q (RPs.set r i t)
theorem RPs.append:∀{xs ys:List PV} {us ws:List V},RPs K ρ H xs us→RPs K ρ H ys ws→RPs K ρ H (xs++ys) (us++ws)
 | _,_,_,_,.nil,s=>s
 | _,_,_,_,.cons r t,s=>.cons r (RPs.append t s)
theorem RPs.take:∀{xs:List PV} {us:List V} (n:Nat),RPs K ρ H xs us→RPs K ρ H (xs.take n) (us.take n)
 | _,_,0,_=>.nil
 | _,_,_+1,.nil=>.nil
 | _,_,n+1,.cons r t=>.cons r (RPs.take n t)
theorem RPs.drop:∀{xs:List PV} {us:List V} (n:Nat),RPs K ρ H xs us→RPs K ρ H (xs.drop n) (us.drop n)
 | _,_,0,r=>r
 | _,_,_+1,.nil=>.nil
 | _,_,n+1,.cons _ t=>RPs.drop n t
theorem RPs.ints:∀(ns:List Int),RPs K ρ H (ns.map PV.int) (ns.map V.int)
 | []=>.nil
 | n::r=>.cons (.int n) (RPs.ints r)
end
def ExcAt (a C:Addr) (h:Heap):Prop:=∃o vs,h.get? a=some o∧o.cls=.ref C∧o.data=.fields vs
abbrev MGl:=Str→Option Value
def RO (K:PySem.W.Frag) (mg:MGl) (ρ:List Addr) (H:Hp) (a:Addr):MO→Option HO→Prop
 | .lst xs,oh=>∃ys,oh=some (.lst ys)∧RPs K ρ H xs ys
 | .dic kvs,oh=>kvs=[]∧oh=some (.dK [])
 | .exc x,oh=>x.fs=[]∧∃C,mg x.cls=some (.ref C)∧oh=some (.ext (ExcAt a C))
structure RH (K:PySem.W.Frag) (mg:MGl) (ρ:List Addr) (H:Hp) (h:MH):Prop where
 len:ρ.length=h.length
 nd:ρ.Nodup
 at':∀(n:Nat) (a:Addr) (o:MO),ρ[n]?=some a→h[n]?=some o→RO K mg ρ H a o (H a)
theorem RO.le {K:PySem.W.Frag} {mg:MGl} {ρ ρ':List Addr} {H H':Hp} {a:Addr} (l:Le ρ H ρ' H') {o:MO} {oh:Option HO} (r:RO K mg ρ H a o oh):RO K mg ρ' H' a o oh:=by
 cases o with
 | lst xs=>obtain ⟨ys,e,r⟩:=r;exact ⟨ys,e,r.le l⟩
 | dic kvs=>exact r
 | exc x=>exact r
theorem RO.some {K:PySem.W.Frag} {mg:MGl} {ρ:List Addr} {H:Hp} {a:Addr} {o:MO} {oh:Option HO} (r:RO K mg ρ H a o oh):oh≠none:=by
 cases o with
 | lst xs=>obtain ⟨ys,e,_⟩:=r;rw[e];simp
 | dic kvs=>obtain ⟨_,e⟩:=r;rw[e];simp
 | exc x=>obtain ⟨_,C,_,e⟩:=r;rw[e];simp
theorem RO.plain {K:PySem.W.Frag} {mg:MGl} {ρ:List Addr} {H:Hp} {a:Addr} {o:MO} {oh:Option HO} (r:RO K mg ρ H a o oh):(∀xs,oh≠Option.some (.tup xs))∧∀p u,oh≠Option.some (.frz p u):=by
 cases o with
 | lst xs=>obtain ⟨ys,e,_⟩:=r;rw[e];exact ⟨(fun _ z=>nomatch z),(fun _ _ z=>nomatch z)⟩
 | dic kvs=>obtain ⟨_,e⟩:=r;rw[e];exact ⟨(fun _ z=>nomatch z),(fun _ _ z=>nomatch z)⟩
 | exc x=>obtain ⟨_,C,_,e⟩:=r;rw[e];exact ⟨(fun _ z=>nomatch z),(fun _ _ z=>nomatch z)⟩
section
variable {K:PySem.W.Frag} {mg:MGl} {ρ:List Addr} {H:Hp} {h:MH}
theorem RH.obj (r:RH K mg ρ H h) {n:Nat} {a:Addr} (e:ρ[n]?=some a):∃o,h[n]?=some o∧RO K mg ρ H a o (H a):=by
 have hn:n<h.length:=by rw[←r.len];exact (List.getElem?_eq_some_iff.mp e).1
 exact ⟨h[n],by simp[hn],r.at' n a _ e (by simp[hn])⟩
theorem RH.new (r:RH K mg ρ H h) {p:Addr} (hp:H p=none) {o:MO} {ho:HO} (hn:RO K mg ρ H p o (some ho)):RH K mg (ρ++[p]) (upd H p ho) (h++[o])∧Le ρ H (ρ++[p]) (upd H p ho):=by
 have hne:∀n a,ρ[n]?=some a→a≠p:=fun n a e z=>by
  obtain ⟨o',_,q⟩:=r.obj e
  rw[z,hp] at q
  exact q.some rfl
 have l:Le ρ H (ρ++[p]) (upd H p ho):=⟨⟨[p],rfl⟩,fun a xs e=>by rw[aV (bu e hp)];exact e,fun a ob u e=>by rw[aV (bu e hp)];exact e⟩
 refine ⟨⟨by simp[r.len],?_,fun n a o' e1 e2=>?_⟩,l⟩
 ·rw[List.nodup_append]
  refine ⟨r.nd,by simp,fun a ha b hb=>?_⟩
  obtain ⟨n,e⟩:=List.mem_iff_getElem?.mp ha
  have hb':b=p:=by simpa using hb
  rw[hb'];exact hne n a e
 ·by_cases hlt:n<ρ.length
  ·rw[List.getElem?_append_left hlt] at e1
   rw[List.getElem?_append_left (by rw[←r.len];exact hlt)] at e2
   rw[aV (hne n a e1)]
   exact (r.at' n a o' e1 e2).le l
  ·rw[List.getElem?_append_right (by omega)] at e1
   rw[List.getElem?_append_right (by rw[←r.len];omega)] at e2
   have hn0:n - ρ.length=0:=by
    rcases Nat.eq_zero_or_pos (n - ρ.length) with z|z
    ·exact z
    ·rw[List.getElem?_eq_none (by simp;omega)] at e1;cases e1
   rw[hn0] at e1
   have hn1:n - h.length=0:=by have:=r.len;omega
   rw[hn1] at e2
   simp at e1 e2
   subst e1;subst e2
   rw[cc]
   exact hn.le l
theorem RH.put (r:RH K mg ρ H h) {n:Nat} {a:Addr} (e:ρ[n]?=some a) {o:MO} {ho:HO} (hn:RO K mg ρ H a o (some ho)):RH K mg ρ (upd H a ho) (h.set n o)∧Le ρ H ρ (upd H a ho):=by
 obtain ⟨o0,_,q⟩:=r.obj e
 obtain ⟨q1,q2⟩:=q.plain
 have l:Le ρ H ρ (upd H a ho):=⟨⟨[],by simp⟩,fun b xs z=>by
   have:b≠a:=by rintro rfl;exact q1 _ z
   rw[aV this];exact z,fun b ob u z=>by
   have:b≠a:=by rintro rfl;exact q2 _ _ z
   rw[aV this];exact z⟩
 refine ⟨⟨by simp[r.len],r.nd,fun m b o' e1 e2=>?_⟩,l⟩
 by_cases hm:m=n
 ·subst hm
  rw[e] at e1;cases e1
  rw[cc]
  have:m<h.length:=by rw[←r.len];exact (List.getElem?_eq_some_iff.mp e).1
  rw[List.getElem?_set_self this] at e2
  cases e2
  exact hn.le l
 ·rw[List.getElem?_set_ne (fun z=>hm z.symm)] at e2
  have hb:b≠a:=by
   rintro rfl
   have h1:=List.getElem?_eq_some_iff.mp e
   have h2:=List.getElem?_eq_some_iff.mp e1
   obtain ⟨l1,g1⟩:=h1
   obtain ⟨l2,g2⟩:=h2
   exact hm ((List.getElem_inj r.nd).mp (g2.trans g1.symm))
  rw[aV hb]
  exact (r.at' m b o' e1 e2).le l
theorem RH.tup (r:RH K mg ρ H h) {p:Addr} (hp:H p=none) (ys:List V):RH K mg ρ (upd H p (.tup ys)) h∧Le ρ H ρ (upd H p (.tup ys)):=by
 have hne:∀n a,ρ[n]?=some a→a≠p:=fun n a e z=>by
  obtain ⟨o',_,q⟩:=r.obj e
  rw[z,hp] at q
  exact q.some rfl
 have l:Le ρ H ρ (upd H p (.tup ys)):=⟨⟨[],by simp⟩,fun a xs e=>by rw[aV (bu e hp)];exact e,fun a ob u e=>by rw[aV (bu e hp)];exact e⟩
 exact ⟨⟨r.len,r.nd,fun n a o e1 e2=>by rw[aV (hne n a e1)];exact (r.at' n a o e1 e2).le l⟩,l⟩
end
def RS (K:PySem.W.Frag) (ρ:List Addr) (H:Hp) (σp:PSt) (σ:L2.St):Prop :=
 σ.length=σp.length∧∀(i:Nat) (v:PV),σp[i]?=some (some v)→∃v',σ[i]?=some (some v')∧RP K ρ H v v'
theorem RS.le {K:PySem.W.Frag} {ρ ρ':List Addr} {H H':Hp} {σp:PSt} {σ:L2.St} (l:Le ρ H ρ' H') (r:RS K ρ H σp σ):RS K ρ' H' σp σ :=
 ⟨r.1,fun i v e=>by obtain ⟨v',e',q⟩:=r.2 i v e;exact ⟨v',e',q.le l⟩⟩
theorem RS.set {K:PySem.W.Frag} {ρ:List Addr} {H:Hp} {σp:PSt} {σ:L2.St} (r:RS K ρ H σp σ) (i:Nat) {v:PV} {v':V} (q:RP K ρ H v v'):RS K ρ H (σp.set i (some v)) (σ.set i (some v')):=by
 refine ⟨by simp[r.1],fun j u e=>?_⟩
 by_cases hj:j=i
 ·subst hj
  by_cases hl:j<σp.length
  ·rw[List.getElem?_set_self hl] at e
   cases e
   exact ⟨v',List.getElem?_set_self (by rw[r.1];exact hl),q⟩
  ·rw[List.getElem?_eq_none (by simp;omega)] at e;cases e
 ·rw[List.getElem?_set_ne (fun z=>hj z.symm)] at e
  obtain ⟨u',e',q'⟩:=r.2 j u e
  exact ⟨u',by rw[List.getElem?_set_ne (fun z=>hj z.symm)];exact e',q'⟩
def Cov (B:Heap) (fs:List Addr) (h:Heap):Prop:=∀b o,h.get? b=some o→b∉fs→∃ob,B.get? b=some ob
def Fly (l:List Env) (H:Hp) (lim:Heap) (C ea:Addr) (h:Heap):Prop :=
 ∃B t,Heap.FlyingW B l ea (.ref C) (.ref t) h∧(∀b o,H b=some o→∃ob,B.get? b=some ob)∧Cov B (frs l) lim∧H ea=none
structure Bears (X:Cx) (h:Heap):Prop where
 old:∀b o,X.s₀.heap.get? b=some o→b∉X.ex→∃o',h.get? b=some o'
 cell:∀x c,X.env.cells.lookup x=some c→∃o,h.get? c=some o
 pin:∀p∈X.pn,∃o,h.get? p.1=some o
theorem Inv.bears {X:Cx} {pins:List (Addr × Obj)} {σ:L2.St} {H:Hp} {s:Shared} (I:Inv X pins σ H s):Bears X s.heap :=
 ⟨fun b o e n=>I.base.there b o e n,fun x c e=>let ⟨_,o,eo,_⟩:=I.cell x c e;⟨o,eo⟩,fun p hp=>⟨_,(I.pin p (List.mem_append_left _ hp)).1⟩⟩
def XP (X:Cx) (σp:PSt) (ρ:List Addr) (H:Hp) (x:MExc) (h:MH):Prop:=∀(ea C:Addr) (ρ':List Addr) (H':Hp) (σ':L2.St) (s':Shared) (lim:Heap),x.fs=[]→X.mg x.cls=some (.ref C)→Le ρ H ρ' H'→RH X.K X.mg ρ' H' h→RS X.K ρ' H' σp σ' →
 Inv X [] σ' H' s'→Bears X lim→Fly X.stack H' lim C ea s'.heap→X.xe (.ref ea) s'
def XM (X:Cx) (σp:PSt) (ρ:List Addr) (H:Hp) (x:MExc) (h:MH):Prop:=∀(ea C:Addr) (ρ':List Addr) (H':Hp) (σ':L2.St) (s':Shared) (h0:Heap) (args:List Value),x.fs=[]→X.mg x.cls=some (.ref C)→Le ρ H ρ' H'→RH X.K X.mg ρ' H' h→RS X.K ρ' H' σp σ' →
 Inv X [] σ' H' { s' with heap:=h0}→Heap.MadeExcOf h0 s'.heap ea (.ref C) args→X.xe (.ref ea) s'
theorem XP.le {X:Cx} {σp:PSt} {ρ ρ':List Addr} {H H':Hp} {x:MExc} {h:MH} (l:Le ρ H ρ' H') (q:XP X σp ρ H x h):XP X σp ρ' H' x h :=
 fun ea C ρ2 H2 σ2 s2 lim e1 e2 l2=>q ea C ρ2 H2 σ2 s2 lim e1 e2 (l.trans l2)
theorem XM.le {X:Cx} {σp:PSt} {ρ ρ':List Addr} {H H':Hp} {x:MExc} {h:MH} (l:Le ρ H ρ' H') (q:XM X σp ρ H x h):XM X σp ρ' H' x h :=
 fun ea C ρ2 H2 σ2 s2 lim args e1 e2 l2=>q ea C ρ2 H2 σ2 s2 lim args e1 e2 (l.trans l2)
abbrev Rl (α β:Type):=List Addr→Hp→α→β→Prop
def Ful {α β:Type} (X:Cx) (R:Rl α β) (σp:PSt) (ρ:List Addr) (H:Hp) (o:Out α) (Q:β→Hp→Prop):Prop:=match o with
 | .ok v h'=>∀ρ' H' v',Le ρ H ρ' H'→RH X.K X.mg ρ' H' h'→R ρ' H' v v'→Q v' H'
 | .exc x h'=>XP X σp ρ H x h'
 | .bad=>False
def Ful0 {α β:Type} (X:Cx) (R:Rl α β) (ρ:List Addr) (H:Hp) (o:Out α) (Q:β→Hp→Prop):Prop:=match o with
 | .ok v h'=>∀ρ' H' v',Le ρ H ρ' H'→RH X.K X.mg ρ' H' h'→R ρ' H' v v'→Q v' H'
 | _=>False
theorem Ful.zero {α β:Type} {X:Cx} {R:Rl α β} {σp:PSt} {ρ:List Addr} {H:Hp} {o:Out α} {Q:β→Hp→Prop} (f:Ful X R σp ρ H o.ne Q):Ful0 X R ρ H o Q:=by
 cases o with
 | ok v h=>exact f
 | exc x h=>exact f
 | bad=>exact f
theorem Ful.le {α β:Type} {X:Cx} {R:Rl α β} {σp:PSt} {ρ ρ1:List Addr} {H H1:Hp} {o:Out α} {Q:β→Hp→Prop} (l:Le ρ H ρ1 H1) (f:Ful X R σp ρ H o Q):Ful X R σp ρ1 H1 o Q:=by
 cases o with
 | ok v h=>exact fun ρ' H' v' l'=>f ρ' H' v' (l.trans l')
 | exc x h=>exact XP.le (X:=X) (σp:=σp) (x:=x) (h:=h) l f
 | bad=>exact f
theorem Ful.bind {α β γ δ:Type} {X:Cx} {R:Rl α β} {S:Rl γ δ} {σp:PSt} {ρ:List Addr} {H:Hp} {o:Out α} {f:α→MH→Out γ} {Q:δ→Hp→Prop} {Q':β→Hp→Prop} (q:Ful X S σp ρ H (o.bind f) Q)
  (k:∀ρ1 H1 v v' h1,o=.ok v h1→Le ρ H ρ1 H1→RH X.K X.mg ρ1 H1 h1→R ρ1 H1 v v'→Ful X S σp ρ1 H1 (f v h1) Q→Q' v' H1):Ful X R σp ρ H o Q':=by
 cases o with
 | ok v h=>exact fun ρ' H' v' l r w=>k ρ' H' v v' h rfl l r w (Ful.le l q)
 | exc x h=>exact q
 | bad=>exact q
abbrev RV' (X:Cx):Rl PV V:=fun ρ H=>RP X.K ρ H
abbrev RVs' (X:Cx):Rl (List PV) (List V):=fun ρ H=>RPs X.K ρ H
abbrev REq {α:Type}:Rl α α:=fun _ _ x y=>x=y
abbrev Mx (α:Type):=PSt→MH→Out α
def tM {α β:Type} (X:Cx) (R:Rl α β) (m:Mx α):L2.St→Hp→(β→Hp→Prop)→Prop:=fun σ H Q=>∃ρ σp h,RS X.K ρ H σp σ∧RH X.K X.mg ρ H h∧Ful X R σp ρ H (m σp h) Q
def ME (X:Cx) (e:Expr) (m:Mx PV):Prop:=PE X e (tM X (RV' X) m)
def MT (X:Cx) (e:Expr) (m:Mx Bool):Prop:=PT X e (tM X REq m)
def MW (X:Cx) (e:Expr) (m:Mx Bool):Prop:=PW X e (tM X REq m)
def MA (X:Cx) (es:List Expr) (m:Mx (List PV)):Prop:=PA X es (tM X (RVs' X) m)
theorem PE.imp {X:Cx} {e:Expr} {t t':TE} (h:PE X e t) (i:∀σ H Q,t' σ H Q→t σ H Q):PE X e t':=fun pins s σ H Q I q=>h pins s σ H Q I (i σ H Q q)
theorem PT.imp {X:Cx} {e:Expr} {t t':TT} (h:PT X e t) (i:∀σ H Q,t' σ H Q→t σ H Q):PT X e t':=fun pins s σ H Q I q=>h pins s σ H Q I (i σ H Q q)
theorem PW.imp {X:Cx} {e:Expr} {t t':TT} (h:PW X e t) (i:∀σ H Q,t' σ H Q→t σ H Q):PW X e t':=fun whole pins s σ H Q I q=>h whole pins s σ H Q I (i σ H Q q)
theorem PA.imp {X:Cx} {e:List Expr} {t t':TA} (h:PA X e t) (i:∀σ H Q,t' σ H Q→t σ H Q):PA X e t':=fun pos pins s σ H Q I q=>h pos pins s σ H Q I (i σ H Q q)
theorem PS.imp {X:Cx} {e:Stmt} {t t':TS} (h:PS X e t) (i:∀D σ H,t' D σ H→t D σ H):PS X e t':=fun pins s σ H D I q=>h pins s σ H D I (i D σ H q)
theorem PSs.imp {X:Cx} {e:List Stmt} {t t':TS} (h:PSs X e t) (i:∀D σ H,t' D σ H→t D σ H):PSs X e t':=fun pins s σ H D I q=>h pins s σ H D I (i D σ H q)
def FulS (X:Cx) (ρ:List Addr) (H:Hp) (o:SOut) (D:Ends):Prop:=match o with
 | .nx σp h'=>∀ρ' H' σ',Le ρ H ρ' H'→RH X.K X.mg ρ' H' h'→RS X.K ρ' H' σp σ'→D.nx σ' H'
 | .bk σp h'=>∀ρ' H' σ',Le ρ H ρ' H'→RH X.K X.mg ρ' H' h'→RS X.K ρ' H' σp σ'→D.bk σ' H'
 | .ct σp h'=>∀ρ' H' σ',Le ρ H ρ' H'→RH X.K X.mg ρ' H' h'→RS X.K ρ' H' σp σ'→D.ct σ' H'
 | .rt v h'=>∀ρ' H' v',Le ρ H ρ' H'→RH X.K X.mg ρ' H' h'→RP X.K ρ' H' v v'→D.rt v' H'
 | .exc x σp h'=>XP X σp ρ H x h'
 | .rse x σp h'=>XM X σp ρ H x h'
 | .bad=>False
theorem FulS.le {X:Cx} {ρ ρ1:List Addr} {H H1:Hp} {o:SOut} {D:Ends} (l:Le ρ H ρ1 H1) (f:FulS X ρ H o D):FulS X ρ1 H1 o D:=by
 cases o with
 | nx σp h=>exact fun ρ' H' v' l'=>f ρ' H' v' (l.trans l')
 | bk σp h=>exact fun ρ' H' v' l'=>f ρ' H' v' (l.trans l')
 | ct σp h=>exact fun ρ' H' v' l'=>f ρ' H' v' (l.trans l')
 | rt v h=>exact fun ρ' H' v' l'=>f ρ' H' v' (l.trans l')
 | exc x σp h=>exact XP.le (X:=X) (σp:=σp) (x:=x) (h:=h) l f
 | rse x σp h=>exact XM.le (X:=X) (σp:=σp) (x:=x) (h:=h) l f
 | bad=>exact f
abbrev Mst:=PSt→MH→SOut
def tMS (X:Cx) (m:Mst):TS:=fun D σ H=>∃ρ σp h,RS X.K ρ H σp σ∧RH X.K X.mg ρ H h∧FulS X ρ H (m σp h) D
def MS (X:Cx) (st:Stmt) (m:Mst):Prop:=PS X st (tMS X m)
def MSs (X:Cx) (st:List Stmt) (m:Mst):Prop:=PSs X st (tMS X m)
section
variable {X:Cx} {N W G:List Str} {k:Nat}
structure Good (X:Cx) (N W G:List Str) (k:Nat):Prop where
 hN:X.N=N
 nd:N.Nodup
 loc:∀x∈N,Loc X.env.scope x
 fn:∀x∈W,X.fn x=true∨X.env.scope.names.lookup x=some .local
 gl:∀x∈G,Gl X x
 dbg:∀x∈N++G,(x == ("__debug__":Str))=false∧(x == ("__classdict__":Str))=false∧x≠"__name__"
 calm:X.calm=true
 room:Room k X.A
 po:PassesOwn (model X.prog X.w) X.A X.env X.xe
theorem Good.x (g:Good X N W G k) {i:Nat} {x:Str} (hi:N[i]?=some x):X.N[i]?=some x:=by rw[g.hN];exact hi
theorem aL {l:List Str} {i:Nat} {x:Str} (hi:l[i]?=some x):x∈l:=List.mem_of_getElem? hi
def rJ (X:Cx) (g:PV→PV→MH→Out PV):R2:=fun x' y' H Q=>∃ρ h x y,RH X.K X.mg ρ H h∧RP X.K ρ H x x'∧RP X.K ρ H y y'∧Ful0 X (RV' X) ρ H (g x y h) Q
abbrev OpJ (X:Cx) (f:Value→Value→Sem Value) (g:PV→PV→MH→Out PV):Prop:=OpR X f (rJ X g)
def uJ (X:Cx) (g:PV→MH→Out PV):V→Hp→VK→Prop:=fun x' H Q=>∃ρ h x,RH X.K X.mg ρ H h∧RP X.K ρ H x x'∧Ful0 X (RV' X) ρ H (g x h) Q
abbrev UnJ (X:Cx) (f:Value→Sem Value) (g:PV→MH→Out PV):Prop:=UnR X f (uJ X g)
def cJ (X:Cx) (g:List PV→MH→Out PV):List V→Hp→VK→Prop:=fun xs' H Q=>∃ρ h xs,RH X.K X.mg ρ H h∧RPs X.K ρ H xs xs'∧Ful0 X (RV' X) ρ H (g xs h) Q
abbrev dR (X:Cx) (f:Value) (g:List PV→MH→Out PV):Prop:=cW X f (cJ X g)
def mVar (i:Nat):Mx PV:=fun σ h=>match σ[i]? with
 | some (some v)=>.ok v h
 | _=>.bad
def mC (v:PV):Mx PV:=fun _ h=>.ok v h
theorem ac (g:Good X N W G k) (i:Nat) {x:Str} {pos:Pos} (hi:N[i]?=some x):ME X (.Name x pos) (mVar i):=by
 have d:=g.dbg x (List.mem_append_left _ (aL hi))
 have hv:Vis X.env.scope x:=by
  rcases g.loc x (aL hi) with q|q
  ·exact .inl q
  ·exact .inr (.inl q)
 refine PE.imp (pe_var (g.x hi) hv d.1 d.2.1) fun σ H Q ⟨ρ,σp,h,rs,rh,f⟩=>?_
 unfold mVar at f
 cases e:σp[i]? with
 | none=>rw[e] at f;exact f.elim
 | some o =>
  rw[e] at f
  cases o with
  | none=>exact f.elim
  | some v =>
   obtain ⟨v',e',r⟩:=rs.2 i v e
   exact ⟨v',e',f ρ H v' (Le.refl _ _) rh r⟩
theorem ag {i:Int} {j:Nat} {pos:Pos}:ME X (.Constant (.int i) j pos) (mC (.int i)):=PE.imp pe_int fun _ H _ ⟨ρ,_,_,_,rh,f⟩=>f ρ H _ (Le.refl _ _) rh (.int i)
theorem bN {i:Bool} {j:Nat} {pos:Pos}:ME X (.Constant (.bool i) j pos) (mC (.bl i)):=PE.imp pe_bl fun _ H _ ⟨ρ,_,_,_,rh,f⟩=>f ρ H _ (Le.refl _ _) rh (.bl i)
def mBin (f:PV→PV→MH→Out PV) (ma mb:Mx PV):Mx PV:=fun σ h=>(ma σ h).bind fun x h1=>(mb σ h1).bind fun y h2=>(f x y h2).ne
def mUn (f:PV→MH→Out PV) (ma:Mx PV):Mx PV:=fun σ h=>(ma σ h).bind fun x h1=>(f x h1).ne
theorem kZ {f:PV→PV→MH→Out PV} {ma mb:Mx PV} {σ:L2.St} {H:Hp} {Q:VK} (q:tM X (RV' X) (mBin f ma mb) σ H Q):tOp (rJ X f) (tM X (RV' X) ma) (tM X (RV' X) mb) σ H Q:=by
 obtain ⟨ρ,σp,h,rs,rh,q⟩:=q
 refine ⟨ρ,σp,h,rs,rh,Ful.bind q fun ρ1 H1 x x' h1 _ l1 rh1 rx q1=>?_⟩
 refine ⟨ρ1,σp,h1,rs.le l1,rh1,Ful.bind q1 fun ρ2 H2 y y' h2 _ l2 rh2 ry q2=>?_⟩
 exact ⟨ρ2,h2,x,y,rh2,rx.le l2,ry,q2.zero⟩
theorem au {op:Operator} {f:PV→PV→MH→Out PV} {a b:Expr} {ma mb:Mx PV} {pos:Pos} (ho:OpJ X (binaryOp op) f) (ha:ME X a ma) (hb:ME X b mb):ME X (.BinOp a op b pos) (mBin f ma mb) :=
 PE.imp (pe_op ho ha hb) fun _ _ _ q=>kZ q
theorem kQ {op:UnaryOp} {f:PV→MH→Out PV} {a:Expr} {ma:Mx PV} {pos:Pos} (ho:UnJ X (unaryOp op) f) (ha:ME X a ma):ME X (.UnaryOp op a pos) (mUn f ma) :=
 PE.imp (pe_un ho ha) fun _ _ _ ⟨ρ,σp,h,rs,rh,q⟩=>⟨ρ,σp,h,rs,rh,Ful.bind q fun ρ1 H1 x x' h1 _ l1 rh1 rx q1=>⟨ρ1,h1,x,rh1,rx,q1.zero⟩⟩
theorem bI {op:CmpOp} {f:PV→PV→MH→Out PV} {a b:Expr} {ma mb:Mx PV} {pos:Pos} (ho:OpJ X (compareOp op) f) (ha:ME X a ma) (hb:ME X b mb) (hm:behindInMarks op b=false):ME X (.Compare a [op] [b] pos) (mBin f ma mb) :=
 PE.imp (pe_cmpR ho ha hb hm) fun _ _ _ q=>kZ q
def mB (m:Mx PV):Mx Bool:=fun σ h=>(m σ h).bind fun v h1=>match v with
 | .bl b=>.ok b h1
 | _=>.bad
theorem tM_B {m:Mx PV} {σ:L2.St} {H:Hp} {Q:Bool→Hp→Prop} (q:tM X REq (mB m) σ H Q):tM X (RV' X) m σ H fun x H1=>∃c,x=.bl c∧Q c H1:=by
 obtain ⟨ρ,σp,h,rs,rh,q⟩:=q
 refine ⟨ρ,σp,h,rs,rh,Ful.bind q fun ρ1 H1 x x' h1 _ l1 rh1 rx q1=>?_⟩
 cases rx with
 | bl b=>exact ⟨b,rfl,q1 ρ1 H1 b (Le.refl _ _) rh1 rfl⟩
 | _=>exact q1.elim
theorem aS {op:CmpOp} {f:PV→PV→MH→Out PV} {a b:Expr} {ma mb:Mx PV} {pos:Pos} (ho:OpJ X (compareOp op) f) (ha:ME X a ma) (hb:ME X b mb) (hm:behindInMarks op b=false):MT X (.Compare a [op] [b] pos) (mB (mBin f ma mb)) :=
 PT.imp (pt_cmpR ho ha hb hm) fun σ H Q q=>by
  obtain ⟨ρ,σp,h,rs,rh,q⟩:=tM_B q
  exact kZ (Q:=fun x H'=>∃k,x=.bl k∧Q k H') ⟨ρ,σp,h,rs,rh,q⟩
theorem eU {e:Expr} {m:Mx PV} (h:ME X e m) (he:∀whole,isTrue e X.env whole=(do let v ←whole;standAt e.pos;holding [v] (truthy v)):=by intro _;rfl):MT X e (mB m) :=
 PT.imp (pt_val h he) fun _ _ _ q=>tM_B q
def mNot (m:Mx Bool):Mx Bool:=fun σ h=>(m σ h).bind fun b h1=>.ok (!b) h1
theorem ff {e:Expr} {m:Mx Bool} {pos:Pos} (h:MT X e m):MT X (.UnaryOp .Not e pos) (mNot m) :=
 PT.imp (pt_not h) fun _ _ _ ⟨ρ,σp,h,rs,rh,q⟩=>⟨ρ,σp,h,rs,rh,Ful.bind q fun ρ1 H1 x x' h1 _ l1 rh1 rx q1=>by
  cases rx;exact q1 ρ1 H1 _ (Le.refl _ _) rh1 rfl⟩
def mAnd (a b:Mx Bool):Mx Bool:=fun σ h=>(a σ h).bind fun x h1=>if x=true then b σ h1 else .ok false h1
def mOr (a b:Mx Bool):Mx Bool:=fun σ h=>(a σ h).bind fun x h1=>if x=true then .ok true h1 else b σ h1
section
variable {a b:Expr} {rest:List Expr} {ma mb:Mx Bool} {pos:Pos}
theorem fP (ha:MT X a ma):MW X (.BoolOp .And [a] pos) ma:=pw_and1 ha
theorem jF (ha:MT X a ma):MW X (.BoolOp .Or [a] pos) ma:=pw_or1 ha
theorem gP (ha:MT X a ma) (hb:MW X (.BoolOp .And (b::rest) pos) mb):MW X (.BoolOp .And (a::b::rest) pos) (mAnd ma mb) :=
 PW.imp (pw_and ha hb) fun σ H Q ⟨ρ,σp,h,rs,rh,q⟩=>⟨ρ,σp,h,rs,rh,Ful.bind q fun ρ1 H1 x x' h1 _ l1 rh1 rx q1=>by
  cases rx
  cases x with
  | true=>rw[if_pos rfl] at q1 ⊢;exact ⟨ρ1,σp,h1,rs.le l1,rh1,q1⟩
  | false=>rw[if_neg Bool.false_ne_true] at q1 ⊢;exact q1 ρ1 H1 _ (Le.refl _ _) rh1 rfl⟩
theorem f8 (ha:MT X a ma) (hb:MW X (.BoolOp .Or (b::rest) pos) mb):MW X (.BoolOp .Or (a::b::rest) pos) (mOr ma mb) :=
 PW.imp (pw_or ha hb) fun σ H Q ⟨ρ,σp,h,rs,rh,q⟩=>⟨ρ,σp,h,rs,rh,Ful.bind q fun ρ1 H1 x x' h1 _ l1 rh1 rx q1=>by
  cases rx
  cases x with
  | true=>rw[if_pos rfl] at q1 ⊢;exact q1 ρ1 H1 _ (Le.refl _ _) rh1 rfl
  | false=>rw[if_neg Bool.false_ne_true] at q1 ⊢;exact ⟨ρ1,σp,h1,rs.le l1,rh1,q1⟩⟩
theorem MW.mt {e:Expr} {m:Mx Bool} (h:MW X e m):MT X e m:=PW.pt h
end
def dS (a b:Mx PV):Mx PV:=fun σ h=>(a σ h).bind fun x h1=>match x with
 | .bl c=>if c=true then b σ h1 else .ok (.bl false) h1
 | _=>.bad
section
variable {a b:Expr} {rest:List Expr} {ma mb:Mx PV} {pos:Pos}
theorem ju {op:BoolOp} (ha:ME X a ma):ME X (.BoolOp op [a] pos) ma:=pe_one ha
theorem eY (ha:ME X a ma) (hb:ME X (.BoolOp .And (b::rest) pos) mb):ME X (.BoolOp .And (a::b::rest) pos) (dS ma mb) :=
 PE.imp (pe_and ha hb) fun σ H Q ⟨ρ,σp,h,rs,rh,q⟩=>⟨ρ,σp,h,rs,rh,Ful.bind q fun ρ1 H1 x x' h1 _ l1 rh1 rx q1=>by
  cases rx with
  | bl c =>
   refine ⟨c,rfl,?_⟩
   dsimp only at q1
   cases c with
   | true=>rw[if_pos rfl] at q1 ⊢;exact ⟨ρ1,σp,h1,rs.le l1,rh1,q1⟩
   | false=>rw[if_neg Bool.false_ne_true] at q1 ⊢;exact q1 ρ1 H1 _ (Le.refl _ _) rh1 (.bl false)
  | _=>exact q1.elim⟩
end
def mNil:Mx (List PV):=fun _ h=>.ok [] h
def ae (a:Mx PV) (r:Mx (List PV)):Mx (List PV):=fun σ h=>(a σ h).bind fun x h1=>(r σ h1).bind fun xs h2=>.ok (x::xs) h2
theorem af:MA X [] mNil:=PA.imp la fun σ H Q ⟨ρ,σp,h,rs,rh,q⟩=>q ρ H _ (Le.refl _ _) rh .nil
theorem aa {e:Expr} {es:List Expr} {m:Mx PV} {ms:Mx (List PV)} (ha:ME X e m) (hr:MA X es ms) (hs:starEach (e::es) X.env=(false,eval e X.env)::starEach es X.env:=by rfl):MA X (e::es) (ae m ms) :=
 PA.imp (iu ha hr hs) fun σ H Q ⟨ρ,σp,h,rs,rh,q⟩=>⟨ρ,σp,h,rs,rh,Ful.bind q fun ρ1 H1 x x' h1 _ l1 rh1 rx q1 =>
  ⟨ρ1,σp,h1,rs.le l1,rh1,Ful.bind q1 fun ρ2 H2 y y' h2 _ l2 rh2 ry q2=>q2 ρ2 H2 _ (Le.refl _ _) rh2 (.cons (rx.le l2) ry)⟩⟩
noncomputable def newL (xs:List PV) (h:MH):Out PV:=if xs.length≤sizeLine then .ok (.loc h.length) (h++[.lst xs]) else .bad
noncomputable def newT (xs:List PV) (h:MH):Out PV:=if xs.length≤sizeLine then .ok (.tup xs) h else .bad
theorem ii {ρ:List Addr} {H:Hp} {h:MH} {xs:List PV} {ys:List V} {Q:VK} (rh:RH X.K X.mg ρ H h) (rs:RPs X.K ρ H xs ys) (f:Ful0 X (RV' X) ρ H (newL xs h) Q):ys.length≤sizeLine∧∀p,H p=none→Q (.ref p) (upd H p (.lst ys)):=by
 unfold newL at f
 split at f
 ·rename_i hl
  refine ⟨by rw[←rs.length];exact hl,fun p hp=>?_⟩
  obtain ⟨r1,l1⟩:=rh.new hp (o:=.lst xs) (ho:=.lst ys) ⟨ys,rfl,rs⟩
  refine f _ _ _ l1 r1 (.loc ?_)
  rw[←rh.len];simp
 ·exact f.elim
theorem nH {ρ:List Addr} {H:Hp} {h:MH} {xs:List PV} {ys:List V} {Q:VK} (rh:RH X.K X.mg ρ H h) (rs:RPs X.K ρ H xs ys) (f:Ful0 X (RV' X) ρ H (newT xs h) Q):ys.length≤sizeLine∧∀p,H p=none→Q (.ref p) (upd H p (.tup ys)):=by
 unfold newT at f
 split at f
 ·rename_i hl
  refine ⟨by rw[←rs.length];exact hl,fun p hp=>?_⟩
  obtain ⟨r1,l1⟩:=rh.tup hp ys
  exact f _ _ _ l1 r1 (.tup (.inl (.inl cc)) (rs.le l1))
 ·exact f.elim
theorem newL_f {σp:PSt} {ρ:List Addr} {H:Hp} {h:MH} {xs:List PV} {Q:VK} (f:Ful X (RV' X) σp ρ H (newL xs h) Q):Ful0 X (RV' X) ρ H (newL xs h) Q:=by
 unfold newL at f ⊢
 split at f
 ·rw[if_pos (by assumption)];exact f
 ·exact f.elim
theorem newT_f {σp:PSt} {ρ:List Addr} {H:Hp} {h:MH} {xs:List PV} {Q:VK} (f:Ful X (RV' X) σp ρ H (newT xs h) Q):Ful0 X (RV' X) ρ H (newT xs h) Q:=by
 unfold newT at f ⊢
 split at f
 ·rw[if_pos (by assumption)];exact f
 ·exact f.elim
noncomputable def mLst (m:Mx (List PV)):Mx PV:=fun σ h=>(m σ h).bind newL
noncomputable def mTup (m:Mx (List PV)):Mx PV:=fun σ h=>(m σ h).bind newT
theorem aN {es:List Expr} {ms:Mx (List PV)} {pos:Pos} (h:MA X es ms):ME X (.List es pos) (mLst ms) :=
 PE.imp (pe_lst h) fun σ H Q ⟨ρ,σp,h,rs,rh,q⟩=>⟨ρ,σp,h,rs,rh,Ful.bind q fun ρ1 H1 x x' h1 _ l1 rh1 rx q1=>ii rh1 rx (newL_f q1)⟩
theorem aE {es:List Expr} {ms:Mx (List PV)} {j:Nat} {pos:Pos} (h:MA X es ms):ME X (.Tuple es j pos) (mTup ms) :=
 PE.imp (pe_tup h) fun σ H Q ⟨ρ,σp,h,rs,rh,q⟩=>⟨ρ,σp,h,rs,rh,Ful.bind q fun ρ1 H1 x x' h1 _ l1 rh1 rx q1=>nH rh1 rx (newT_f q1)⟩
def SOut.then (o:SOut) (k:Mst):SOut:=match o with
 | .nx σ h=>k σ h
 | o=>o
def mSeq (a b:Mst):Mst:=fun σ h=>(a σ h).then b
def mSkip:Mst:=fun σ h=>.nx σ h
theorem bp:MSs X [] mSkip:=PSs.imp pss_nil fun D σ H ⟨ρ,σp,h,rs,rh,q⟩=>q ρ H σ (Le.refl _ _) rh rs
theorem ay {st:Stmt} {m:Mst} (h:MS X st m):MSs X [st] m:=pss_one h
theorem FulS.then {ρ:List Addr} {H:Hp} {o:SOut} {k:Mst} {D:Ends} (q:FulS X ρ H (o.then k) D):FulS X ρ H o { D with nx:=fun σ H=>tMS X k D σ H}:=by
 cases o with
 | nx σp h=>exact fun ρ' H' σ' l r s=>⟨ρ',σp,h,s,r,FulS.le l q⟩
 | _=>exact q
theorem ah {st:Stmt} {rest:List Stmt} {m u:Mst} (h1:MS X st m) (h2:MSs X rest u):MSs X (st::rest) (mSeq m u) :=
 PSs.imp (qX h1 h2) fun D σ H ⟨ρ,σp,h,rs,rh,q⟩=>⟨ρ,σp,h,rs,rh,FulS.then q⟩
def mRet (m:Mx PV):Mst:=fun σ h=>match m σ h with
 | .ok v h'=>.rt v h'
 | .exc x h'=>.exc x σ h'
 | .bad=>.bad
theorem aM {e:Expr} {m:Mx PV} {pos:Pos} (he:ME X e m):MS X (.Return (some e) pos) (mRet m) :=
 PS.imp (ps_ret he) fun D σ H ⟨ρ,σp,h,rs,rh,q⟩=>⟨ρ,σp,h,rs,rh,by
  unfold mRet at q
  cases e:m σp h with
  | ok v h'=>rw[e] at q;exact q
  | exc x h'=>rw[e] at q;exact q
  | bad=>rw[e] at q;exact q⟩
def mEx {α:Type} (m:Mx α) (k:α→Mst):Mst:=fun σ h=>match m σ h with
 | .ok v h'=>k v σ h'
 | .exc x h'=>.exc x σ h'
 | .bad=>.bad
theorem FulS.ex {α β:Type} {R:Rl α β} {m:Mx α} {k:α→Mst} {ρ:List Addr} {H:Hp} {σp:PSt} {h:MH} {D:Ends} {Q:β→Hp→Prop} (q:FulS X ρ H (mEx m k σp h) D)
  (w:∀ρ1 H1 v v' h1,Le ρ H ρ1 H1→RH X.K X.mg ρ1 H1 h1→R ρ1 H1 v v'→FulS X ρ1 H1 (k v σp h1) D→Q v' H1):Ful X R σp ρ H (m σp h) Q:=by
 unfold mEx at q
 cases e:m σp h with
 | ok v h'=>rw[e] at q;exact fun ρ1 H1 v' l r z=>w ρ1 H1 v v' h' l r z (FulS.le l q)
 | exc x h'=>rw[e] at q;exact q
 | bad=>rw[e] at q;exact q
def fX (m:Mx PV):Mst:=mEx m fun _=>mSkip
theorem ms_expr {e:Expr} {m:Mx PV} {pos:Pos} (he:ME X e m) (hs:swapsWith e none pos.line X.env=pure false:=by rfl):MS X (.Expr e pos) (fX m) :=
 PS.imp (ps_expr he hs) fun D σ H ⟨ρ,σp,h,rs,rh,q⟩=>⟨ρ,σp,h,rs,rh,FulS.ex q fun ρ1 H1 v v' h1 l r z w=>w ρ1 H1 σ (Le.refl _ _) r (rs.le l)⟩
def mIf (c:Mx Bool) (a b:Mst):Mst:=mEx c fun x=>if x=true then a else b
theorem bT {c:Expr} {a b:List Stmt} {mc:Mx Bool} {ma mb:Mst} {pos:Pos} (hc:MT X c mc) (ha:MSs X a ma) (hb:MSs X b mb):MS X (.If c a b pos) (mIf mc ma mb) :=
 PS.imp (ps_if hc ha hb) fun D σ H ⟨ρ,σp,h,rs,rh,q⟩=>⟨ρ,σp,h,rs,rh,FulS.ex q fun ρ1 H1 v v' h1 l r z w=>by
  cases z
  cases v with
  | true=>rw[if_pos rfl];exact ⟨ρ1,σp,h1,rs.le l,r,w⟩
  | false=>rw[if_neg Bool.false_ne_true];exact ⟨ρ1,σp,h1,rs.le l,r,w⟩⟩
def mSet (i:Nat) (m:Mx PV):Mst:=mEx m fun v σ h=>.nx (σ.set i (some v)) h
theorem aG (g:Good X N W G k) (i:Nat) {x:Str} {e:Expr} {m:Mx PV} {pos pos':Pos} (hi:N[i]?=some x) (hw:W[i]?=some x) (he:ME X e m) (hs:swapsWith e (some (.Name x pos')) pos.line X.env=pure false:=by rfl) :
  MS X (.Assign [.Name x pos'] e pos) (mSet i m):=by
 refine PS.imp (ps_set (X:=X) (i:=i) (by rw[g.hN];exact g.nd) (g.x hi) (g.loc x (aL hi)) he hs (g.fn x (aL hw))) fun D σ H ⟨ρ,σp,h,rs,rh,q⟩=>?_
 exact ⟨ρ,σp,h,rs,rh,FulS.ex q fun ρ1 H1 v v' h1 l r z w=>w ρ1 H1 _ (Le.refl _ _) r ((rs.le l).set i z)⟩
end
end MM
namespace MM
open PySem PySem.Spec PyProof.Rows L2
noncomputable local instance (priority:=1) cdec (p:Prop):Decidable p:=Classical.propDecidable p
section
variable {X:Cx} {N W G:List Str} {k:Nat}
abbrev Mg:=PV→Mst
def FulG (X:Cx) (ρ:List Addr) (H:Hp) (o:SOut) (Q:L2.St→Hp→Prop):Prop:=match o with
 | .nx σp h'=>∀ρ' H' σ',Le ρ H ρ' H'→RH X.K X.mg ρ' H' h'→RS X.K ρ' H' σp σ'→Q σ' H'
 | .exc x σp h'=>XP X σp ρ H x h'
 | _=>False
theorem FulG.le {ρ ρ1:List Addr} {H H1:Hp} {o:SOut} {Q:L2.St→Hp→Prop} (l:Le ρ H ρ1 H1) (f:FulG X ρ H o Q):FulG X ρ1 H1 o Q:=by
 cases o with
 | nx σp h=>exact fun ρ' H' v' l'=>f ρ' H' v' (l.trans l')
 | exc x σp h=>exact XP.le (X:=X) (σp:=σp) (x:=x) (h:=h) l f
 | _=>exact f
def tG (X:Cx) (g:Mg):TG:=fun v' σ H Q=>∃ρ σp h v,RS X.K ρ H σp σ∧RH X.K X.mg ρ H h∧RP X.K ρ H v v'∧FulG X ρ H (g v σp h) Q
def MG (X:Cx) (tg:Expr) (g:Mg):Prop:=PG X tg (tG X g)
theorem PG.imp {e:Expr} {t t':TG} (h:PG X e t) (i:∀v σ H Q,t' v σ H Q→t v σ H Q):PG X e t':=fun pins s σ H v u Q I r q=>h pins s σ H v u Q I r (i v σ H Q q)
def gNm (i:Nat):Mg:=fun v σ h=>.nx (σ.set i (some v)) h
theorem az (g:Good X N W G k) (i:Nat) {x:Str} {pos:Pos} (hi:N[i]?=some x) (hw:W[i]?=some x):MG X (.Name x pos) (gNm i) :=
 PG.imp (mZ (by rw[g.hN];exact g.nd) (g.x hi) (g.loc x (aL hi)) (g.fn x (aL hw))) fun v' σ H Q ⟨ρ,σp,h,v,rs,rh,rv,q⟩=>q ρ H _ (Le.refl _ _) rh (rs.set i rv)
abbrev Mgs:=List PV→Mst
def tGs (X:Cx) (g:Mgs):TGs:=fun v' σ H Q=>∃ρ σp h v,RS X.K ρ H σp σ∧RH X.K X.mg ρ H h∧RPs X.K ρ H v v'∧FulG X ρ H (g v σp h) Q
def MGs (X:Cx) (tg:List Expr) (g:Mgs):Prop:=PGs X tg (tGs X g)
theorem PGs.imp {e:List Expr} {t t':TGs} (h:PGs X e t) (i:∀v σ H Q,t' v σ H Q→t v σ H Q):PGs X e t':=fun pins s σ H v u Q I r q=>h pins s σ H v u Q I r (i v σ H Q q)
def gNl:Mgs:=fun vs σ h=>match vs with
 | []=>.nx σ h
 | _=>.bad
def gCn (a:Mg) (r:Mgs):Mgs:=fun vs σ h=>match vs with
 | v::vr=>(a v σ h).then (r vr)
 | []=>.bad
theorem bW:MGs X [] gNl:=PGs.imp pgs_nil fun v' σ H Q ⟨ρ,σp,h,v,rs,rh,rv,q⟩=>by
 cases rv with
 | nil=>exact ⟨rfl,q ρ H σ (Le.refl _ _) rh rs⟩
 | cons _ _=>exact q.elim
theorem aO {e:Expr} {es:List Expr} {a:Mg} {r:Mgs} (h1:MG X e a) (h2:MGs X es r)
  (hs:(assignEach (e::es) X.env).map (·.2)=assign e X.env::(assignEach es X.env).map (·.2):=by rfl):MGs X (e::es) (gCn a r) :=
 PGs.imp (rD h1 h2 hs) fun v' σ H Q ⟨ρ,σp,h,v,rs,rh,rv,q⟩=>by
  cases rv with
  | nil=>exact q.elim
  | @cons x y xs ys rx rr =>
   refine ⟨_,_,rfl,ρ,σp,h,x,rs,rh,rx,?_⟩
   dsimp only[gCn] at q
   cases e:a x σp h with
   | nx σ1 h1=>rw[e] at q;exact fun ρ' H' σ' l r1 s1=>⟨ρ',σ1,h1,xs,s1,r1,rr.le l,FulG.le l q⟩
   | exc x1 σ1 h1=>rw[e] at q;exact q
   | _=>rw[e] at q;exact q
def gTp (r:Mgs) (n:Nat):Mg:=fun v σ h=>match v with
 | .tup xs=>if xs.length=n then r xs σ h else .bad
 | _=>.bad
theorem cr (g:Good X N W G k) {es:List Expr} {j:Nat} {r:Mgs} {n:Nat} {pos:Pos} (h:MGs X es r) (hn:(assignEach es X.env).length=n:=by rfl) (hst:(assignEach es X.env).findIdx? (·.1)=none:=by rfl) :
  MG X (.Tuple es j pos) (gTp r n) :=
 PG.imp (pg_tup g.calm h hn hst) fun v' σ H Q ⟨ρ,σp,h,v,rs,rh,rv,q⟩=>by
  cases rv with
  | tup s rr =>
   dsimp only[gTp] at q
   split at q
   ·rename_i hl
    exact ⟨_,_,rfl,s,by rw[←rr.length];exact hl,ρ,σp,h,_,rs,rh,rr,q⟩
   ·exact q.elim
  | _=>exact q.elim
def mAsg (m:Mx PV) (g:Mg):Mst:=mEx m fun v σ h=>match g v σ h with
 | .nx σ2 h2=>.nx σ2 h2
 | .exc x σ2 h2=>.exc x σ2 h2
 | _=>.bad
theorem cV {tg e:Expr} {m:Mx PV} {g:Mg} {pos:Pos} (he:ME X e m) (hg:MG X tg g) (hs:swapsWithSole [tg] e pos.line X.env=pure false:=by rfl) (hw:swappedStores [tg] e X.env=pure none:=by rfl)
  (h1:(assignEach [tg] X.env).map (·.2)=[assign tg X.env]:=by rfl):MS X (.Assign [tg] e pos) (mAsg m g) :=
 PS.imp (ps_asg he hg hs hw h1) fun D σ H ⟨ρ,σp,h,rs,rh,q⟩=>⟨ρ,σp,h,rs,rh,FulS.ex q fun ρ1 H1 v v' h1 l r z w=>⟨ρ1,σp,h1,v,rs.le l,r,z,by
  cases e:g v σp h1 with
  | nx σ2 h2=>rw[e] at w;exact w
  | exc x σ2 h2=>rw[e] at w;exact w
  | _=>rw[e] at w;exact w⟩⟩
def mPar (i j:Nat) (m:Mx (List PV)):Mst:=mEx m fun vs σ h=>match vs with
 | [v,w]=>.nx ((σ.set i (some v)).set j (some w)) h
 | _=>.bad
theorem ls (g:Good X N W G k) (i j:Nat) {x y:Str} {a b:Expr} {m:Mx (List PV)} {px py pt pos:Pos} {kt k2:Nat} {pt2:Pos} (hi:N[i]?=some x) (hj:N[j]?=some y) (hij:i≠j) (ha:MA X [a,b] m)
  (hx:X.env.scope.names.lookup x=some .local) (hy:X.env.scope.names.lookup y=some .local)
  (hw:swappedStores [.Tuple [.Name x px,.Name y py] kt pt] (.Tuple [a,b] k2 pt2) X.env=pure (some [x,y]))
  (hs:swapsWithSole [.Tuple [.Name x px,.Name y py] kt pt] (.Tuple [a,b] k2 pt2) pos.line X.env=pure false:=by rfl) :
  MS X (.Assign [.Tuple [.Name x px,.Name y py] kt pt] (.Tuple [a,b] k2 pt2) pos) (mPar i j m) :=
 PS.imp (ps_par g.calm (by rw[g.hN];exact g.nd) (g.x hi) (g.x hj) hij hx hy ha hw hs) fun D σ H ⟨ρ,σp,h,rs,rh,q⟩=>⟨ρ,σp,h,rs,rh,FulS.ex q fun ρ1 H1 v v' h1 l r z w=>by
  cases z with
  | nil=>exact w.elim
  | cons z1 z =>
   cases z with
   | nil=>exact w.elim
   | cons z2 z =>
    cases z with
    | nil=>exact ⟨_,_,rfl,w ρ1 H1 _ (Le.refl _ _) r (((rs.le l).set i z1).set j z2)⟩
    | cons _ _=>exact w.elim⟩
noncomputable def setL (o i v:PV) (h:MH):Option MH:=match o,i with
 | .loc n,.int j=>(match h[n]? with
  | some (.lst xs)=>(ixN xs.length j).map fun p=>h.set n (.lst (xs.set p v))
  | _=>none)
 | _,_=>none
noncomputable def gSb (mo mi:Mx PV):Mg:=fun v=>mEx mo fun o=>mEx mi fun i σ h=>match setL o i v h with
 | some h2=>.nx σ h2
 | none=>.bad
theorem cU {o i:Expr} {mo mi:Mx PV} {pos:Pos} (ho:ME X o mo) (hi:ME X i mi)
  (ha:∀v,assign (.Subscript o i pos) X.env v=(do
   let ov ←holding [v] (eval o X.env)
   let iv ←holding [v,ov] (eval i X.env)
   standAt pos
   holding [v,ov,iv] (setItem ov iv v)
   release [v,ov,iv] []):=by intro _;rfl):MG X (.Subscript o i pos) (gSb mo mi) :=
 PG.imp (pg_sub ho hi qN ha) fun v' σ H Q ⟨ρ,σp,h,v,rs,rh,rv,q⟩=>by
  refine ⟨ρ,σp,h,rs,rh,?_⟩
  unfold gSb mEx at q
  cases e:mo σp h with
  | exc x h1=>rw[e] at q;exact q
  | bad=>rw[e] at q;exact q
  | ok ov h1 =>
   rw[e] at q
   intro ρ1 H1 o' l1 rh1 ro
   refine ⟨ρ1,σp,h1,rs.le l1,rh1,?_⟩
   dsimp only at q
   cases e2:mi σp h1 with
   | exc x h2=>rw[e2] at q;exact XP.le (X:=X) (σp:=σp) (x:=x) (h:=h2) l1 q
   | bad=>rw[e2] at q;exact q
   | ok iv h2 =>
    rw[e2] at q
    intro ρ2 H2 i' l2 rh2 ri
    dsimp only at q
    have ro2:=ro.le l2
    have rv2:=(rv.le l1).le l2
    unfold setL at q
    cases ro2 with
    | @loc n a en =>
     cases ri with
     | int j =>
      dsimp only at q
      obtain ⟨ob,eo,rob⟩:=rh2.obj en
      rw[eo] at q
      cases ob with
      | dic kvs=>exact q.elim
      | exc x=>exact q.elim
      | lst xs =>
       obtain ⟨ys,ey,ry⟩:=rob
       dsimp only at q
       cases ep:ixN xs.length j with
       | none=>rw[ep] at q;exact q.elim
       | some p =>
        rw[ep] at q
        refine ⟨a,ys,j,p,rfl,rfl,ey,by rw[←ry.length];exact ep,?_⟩
        obtain ⟨r3,l3⟩:=rh2.put en (o:=.lst (xs.set p v)) (ho:=.lst (ys.set p v')) ⟨_,rfl,RPs.set rv2 p ry⟩
        exact q ρ2 _ σ (l1.trans (l2.trans l3)) r3 (rs.le (l1.trans (l2.trans l3)))
     | _=>exact q.elim
    | _=>exact q.elim
structure MIt where
 xs:List PV
 gd:List (Nat × List PV):=[]
def MIt.ok (it:MIt) (h:MH):Prop:=∀p∈it.gd,h[p.1]?=some (.lst p.2)
def JRel (X:Cx):Rl MIt It:=fun ρ0 H0 it J=>∀ρ H h (i:Nat),Le ρ0 H0 ρ H→RH X.K X.mg ρ H h→it.ok h →
 (i<it.xs.length→J.go i H∧∀x' H',J.yld i H x' H'→∃ρ' x,Le ρ H ρ' H'∧RH X.K X.mg ρ' H' h∧it.xs[i]?=some x∧RP X.K ρ' H' x x')∧(it.xs.length≤i→J.stop i H)
def MI (X:Cx) (tg iter:Expr) (m:Mx MIt):Prop:=PI X tg iter (tM X (JRel X) m)
theorem PI.imp {tg e:Expr} {t t':TI} (h:PI X tg e t) (i:∀σ H Q,t' σ H Q→t σ H Q):PI X tg e t':=fun pins s σ H Q I q=>h pins s σ H Q I (i σ H Q q)
noncomputable def mGo (it:MIt) (g:Mg) (b:Mst):List PV→Mst
 | []=>fun σ h=>if it.ok h then .nx σ h else .bad
 | x::r=>fun σ h=>if it.ok h then (match g x σ h with
   | .nx σ1 h1=>(match b σ1 h1 with
    | .nx σ2 h2=>mGo it g b r σ2 h2
    | .ct σ2 h2=>mGo it g b r σ2 h2
    | .bk σ2 h2=>.nx σ2 h2
    | .rt v h2=>.rt v h2
    | .exc e σ2 h2=>.exc e σ2 h2
    | .rse e σ2 h2=>.rse e σ2 h2
    | .bad=>.bad)
   | .exc e σ1 h1=>.exc e σ1 h1
   | _=>.bad) else .bad
noncomputable def mFor (mi:Mx MIt) (g:Mg) (b:Mst):Mst:=mEx mi fun it=>mGo it g b it.xs
theorem dW (gd:Good X N W G k) {tg iter:Expr} {body:List Stmt} {mi:Mx MIt} {g:Mg} {mb:Mst} {pos:Pos} (hi:MI X tg iter mi) (hg:MG X tg g) (hb:MSs X body mb)
  (hs:∀x,foldedSetIterable iter X.env x=pure x:=by intro _;rfl):MS X (.For tg iter body [] pos) (mFor mi g mb):=by
 refine PS.imp (ps_for gd.po gd.calm hi hg hb hs) fun D σ H ⟨ρ,σp,h,rs,rh,q⟩=>⟨ρ,σp,h,rs,rh,FulS.ex q fun ρ1 H1 it J h1 l1 rh1 jr w=>?_⟩
 refine ⟨fun i m σ H=>m=it.xs.length - i∧i≤it.xs.length∧∃ρ σp h,Le ρ1 H1 ρ H∧RS X.K ρ H σp σ∧RH X.K X.mg ρ H h∧FulS X ρ H (mGo it g mb (it.xs.drop i) σp h) D,⟨_,rfl,Nat.zero_le _,ρ1,σp,h1,Le.refl _ _,rs.le l1,rh1,w⟩,?_⟩
 rintro i m σ2 H2 ⟨rfl,hi,ρ2,σp2,h2,l2,rs2,rh2,w2⟩
 by_cases hlt:i<it.xs.length
 ·have ed:it.xs.drop i=it.xs[i]::it.xs.drop (i+1):=List.drop_eq_getElem_cons hlt
  rw[ed] at w2
  unfold mGo at w2
  split at w2
  ·rename_i hok
   obtain ⟨j1,j2⟩:=jr ρ2 H2 h2 i l2 rh2 hok
   obtain ⟨go,yl⟩:=j1 hlt
   refine .inr ⟨go,fun σ3 H3=>∃ρ3 σp3 h3,Le ρ1 H1 ρ3 H3∧RS X.K ρ3 H3 σp3 σ3∧RH X.K X.mg ρ3 H3 h3∧FulS X ρ3 H3 (mGo it g mb (it.xs.drop (i+1)) σp3 h3) D,fun σ3 H3 z=>⟨_,by omega,rfl,hlt,z⟩,fun x' H' y=>?_⟩
   obtain ⟨ρ',x,l',rh',ex,rx⟩:=yl x' H' y
   have ex':x=it.xs[i]:=by rw[List.getElem?_eq_getElem hlt] at ex;exact (Option.some.inj ex).symm
   subst ex'
   refine ⟨ρ',σp2,h2,_,rs2.le l',rh',rx,?_⟩
   have w2':=FulS.le l' w2
   cases eg:g it.xs[i] σp2 h2 with
   | nx σ4 h4 =>
    rw[eg] at w2'
    intro ρ5 H5 σ5 l5 r5 s5
    refine ⟨ρ5,σ4,h4,s5,r5,?_⟩
    have w3:=FulS.le l5 w2'
    have l6:Le ρ1 H1 ρ5 H5:=l2.trans (l'.trans l5)
    dsimp only at w3
    cases em:mb σ4 h4 with
    | nx σ6 h6=>rw[em] at w3;exact fun ρ7 H7 σ7 l7 r7 s7=>⟨ρ7,σ6,h6,l6.trans l7,s7,r7,FulS.le l7 w3⟩
    | ct σ6 h6=>rw[em] at w3;exact fun ρ7 H7 σ7 l7 r7 s7=>⟨ρ7,σ6,h6,l6.trans l7,s7,r7,FulS.le l7 w3⟩
    | bk σ6 h6=>rw[em] at w3;exact w3
    | rt v h6=>rw[em] at w3;exact w3
    | exc e σ6 h6=>rw[em] at w3;exact w3
    | rse e σ6 h6=>rw[em] at w3;exact w3
    | bad=>rw[em] at w3;exact w3
   | exc e σ4 h4=>rw[eg] at w2';exact w2'
   | _=>rw[eg] at w2';exact w2'.elim
  ·exact w2.elim
 ·have e:i=it.xs.length:=by omega
  rw[e,List.drop_length] at w2
  unfold mGo at w2
  split at w2
  ·rename_i hok
   obtain ⟨j1,j2⟩:=jr ρ2 H2 h2 i l2 rh2 hok
   exact .inl ⟨j2 (by omega),w2 ρ2 H2 σ2 (Le.refl _ _) rh2 rs2⟩
  ·exact w2.elim
noncomputable def itSeq (v:PV) (h:MH):Out MIt:=match v with
 | .loc n=>(match h[n]? with
  | some (.lst xs)=>.ok ⟨xs,[(n,xs)]⟩ h
  | _=>.bad)
 | .frl xs=>.ok ⟨xs,[]⟩ h
 | _=>.bad
noncomputable def mItL (m:Mx PV):Mx MIt:=fun σ h=>(m σ h).bind itSeq
theorem m6 {ρ:List Addr} {H:Hp} {a:Addr} {xs:List PV} {gd:List (Nat × List PV)} (hS:∀ρ' H' h,Le ρ H ρ' H'→RH X.K X.mg ρ' H' h→(⟨xs,gd⟩:MIt).ok h→∃ys,SqL X.K H' a ys∧RPs X.K ρ' H' xs ys):JRel X ρ H ⟨xs,gd⟩ (Itl X.K a):=by
 intro ρ' H' h i l rh ok
 obtain ⟨ys,hs,rs⟩:=hS ρ' H' h l rh ok
 refine ⟨fun hi=>?_,fun hi=>⟨ys,hs,by rw[←rs.length];exact hi⟩⟩
 have hx:xs[i]?=some (xs[i]'hi):=List.getElem?_eq_getElem hi
 obtain ⟨y,ey,ry⟩:=rs.get hx
 refine ⟨⟨ys,y,hs,ey⟩,fun x' H2 ⟨e,z⟩=>?_⟩
 subst e
 have:ys[i]?=some x':=z ys hs
 rw[ey] at this;cases this
 exact ⟨ρ',_,Le.refl _ _,rh,hx,ry⟩
theorem mi_list {tg l:Expr} {m:Mx PV} (hl:ME X l m):MI X tg l (mItL m) :=
 PI.imp (pi_list hl) fun σ H Q ⟨ρ,σp,h,rs,rh,q⟩=>⟨ρ,σp,h,rs,rh,Ful.bind q fun ρ1 H1 x x' h1 _ l1 rh1 rx q1=>by
  cases rx with
  | @loc n a e =>
   obtain ⟨ob,eo,rob⟩:=rh1.obj e
   dsimp only[itSeq] at q1
   rw[eo] at q1
   cases ob with
   | dic kvs=>exact q1.elim
   | exc x=>exact q1.elim
   | lst xs =>
    obtain ⟨ys,ey,ry⟩:=rob
    refine ⟨a,rfl,⟨ys,SqL.of ey⟩,q1 ρ1 H1 _ (Le.refl _ _) rh1 (m6 fun ρ' H' h' l rh' ok=>?_)⟩
    obtain ⟨ys',ey',ry'⟩:=rh'.at' n a _ (l.get e) (ok (n,xs) (by simp))
    exact ⟨ys',SqL.of ey',ry'⟩
  | frl s r =>
   exact ⟨_,rfl,⟨_,s.sq⟩,q1 ρ1 H1 _ (Le.refl _ _) rh1 (m6 fun ρ' H' h' l rh' ok=>⟨_,(l.sqf s).sq,r.le l⟩)⟩
  | _=>exact q1.elim⟩
noncomputable def mItT (m:Mx PV):Mx MIt:=fun σ h=>(m σ h).bind fun v h1=>match v with
 | .tup xs=>.ok ⟨xs,[]⟩ h1
 | _=>.bad
theorem mi_tup {tg l:Expr} {m:Mx PV} (hl:ME X l m):MI X tg l (mItT m) :=
 PI.imp (pi_tup hl) fun σ H Q ⟨ρ,σp,h,rs,rh,q⟩=>⟨ρ,σp,h,rs,rh,Ful.bind q fun ρ1 H1 x x' h1 _ l1 rh1 rx q1=>by
  cases rx with
  | @tup xs a ys s r =>
   refine ⟨_,rfl,⟨_,s⟩,q1 ρ1 H1 _ (Le.refl _ _) rh1 ?_⟩
   intro ρ' H' h' i l rh' ok
   have s':=l.sqt s
   have r':=r.le l
   refine ⟨fun hi=>?_,fun hi=>⟨ys,s',by rw[←r.length];exact hi⟩⟩
   have hx:xs[i]?=some (xs[i]'hi):=List.getElem?_eq_getElem hi
   obtain ⟨y,ey,ry⟩:=r'.get hx
   refine ⟨⟨ys,y,s',ey⟩,fun x' H2 ⟨e,z⟩=>?_⟩
   subst e
   have:ys[i]?=some x':=z ys s'
   rw[ey] at this;cases this
   exact ⟨ρ',_,Le.refl _ _,rh',hx,ry⟩
  | _=>exact q1.elim⟩
def br (lo:Int) (n:Nat):List PV:=(List.range n).map fun (i:Nat)=>PV.int (lo+(i:Int))
theorem gf (lo:Int) (n:Nat):(br lo n).length=n:=by simp[br]
theorem Itr_rel {ρ:List Addr} {H:Hp} (lo:Int) (n:Nat):JRel X ρ H ⟨br lo n,[]⟩ (Itr lo n):=by
 intro ρ' H' h i l rh ok
 have hl:(br lo n).length=n:=gf lo n
 refine ⟨fun hi=>⟨by rw[hl] at hi;exact hi,fun x' H2 ⟨e1,e2⟩=>?_⟩,fun hi=>by rw[hl] at hi;exact hi⟩
 subst e1;subst e2
 rw[hl] at hi
 exact ⟨ρ',.int (lo+i),Le.refl _ _,rh,by simp[br,hi],.int _⟩
noncomputable def cb (m:Mx (List PV)):Mx MIt:=fun σ h=>(m σ h).bind fun vs h1=>match vs with
 | [.int j]=>if -(2 ^ 62)≤j∧j<2 ^ 62 then .ok ⟨br 0 j.toNat,[]⟩ h1 else .bad
 | _=>.bad
theorem bG {tg a:Expr} {m:Mx (List PV)} {p pos:Pos} (hg:Gl X "range") (hm:X.mg "range"=none) (ha:MA X [a] m) (hs:starEach [a] X.env=[(false,eval a X.env)]:=by rfl):MI X tg (.Call (.Name "range" p) [a] [] pos) (cb m):=by
 refine PI.imp (qq hg hm ha hs) fun σ H Q ⟨ρ,σp,h,rs,rh,q⟩=>⟨ρ,σp,h,rs,rh,Ful.bind q fun ρ1 H1 x x' h1 _ l1 rh1 rx q1=>?_⟩
 cases rx with
 | nil=>exact q1.elim
 | cons r1 t1 =>
  cases t1 with
  | nil =>
   cases r1 with
   | int j =>
    dsimp only at q1
    split at q1
    ·rename_i hj
     exact ⟨j,rfl,hj.1,hj.2,q1 ρ1 H1 _ (Le.refl _ _) rh1 (Itr_rel 0 j.toNat)⟩
    ·exact q1.elim
   | _=>exact q1.elim
  | cons r2 t2=>cases r1 <;> exact q1.elim
def mWhN (c:Mx Bool) (b:Mst):Nat→Mst
 | 0=>fun _ _=>.bad
 | n+1=>mEx c fun x=>if x=true then (fun σ h=>match b σ h with
   | .nx σ2 h2=>mWhN c b n σ2 h2
   | .ct σ2 h2=>mWhN c b n σ2 h2
   | .bk σ2 h2=>.nx σ2 h2
   | .rt v h2=>.rt v h2
   | .exc e σ2 h2=>.exc e σ2 h2
   | .rse e σ2 h2=>.rse e σ2 h2
   | .bad=>.bad) else mSkip
noncomputable def mWh (c:Mx Bool) (b:Mst):Mst:=fun σ h=>if z:∃n,mWhN c b n σ h≠.bad then mWhN c b (Classical.choose z) σ h else .bad
theorem gU {c:Mx Bool} {b:Mst}:∀{n:Nat} {σ:PSt} {h:MH},mWhN c b n σ h≠.bad→mWhN c b (n+1) σ h=mWhN c b n σ h
 | 0,_,_,q=>absurd rfl q
 | n+1,σ,h,q=>by
  rw[mWhN] at q
  conv=>lhs;rw[mWhN]
  conv=>rhs;rw[mWhN]
  unfold mEx at q ⊢
  cases e:c σ h with
  | exc x h1=>rfl
  | bad=>rfl
  | ok x h1 =>
   rw[e] at q
   dsimp only at q ⊢
   cases x with
   | false=>rfl
   | true =>
    simp only[if_true] at q ⊢
    cases em:b σ h1 with
    | nx σ2 h2=>rw[em] at q;exact gU q
    | ct σ2 h2=>rw[em] at q;exact gU q
    | _=>rfl
theorem nA {c:Mx Bool} {b:Mst} {n m:Nat} {σ:PSt} {h:MH} (q:mWhN c b n σ h≠.bad) (l:n≤m):mWhN c b m σ h=mWhN c b n σ h:=by
 induction l with
 | refl=>rfl
 | step l ih=>rw[gU (by rw[ih];exact q),ih]
theorem o7 {c:Mx Bool} {b:Mst} {n:Nat} {σ:PSt} {h:MH} (q:mWhN c b n σ h≠.bad):mWh c b σ h=mWhN c b n σ h:=by
 have z:∃n,mWhN c b n σ h≠.bad:=⟨n,q⟩
 unfold mWh
 rw[dif_pos z]
 have q2:=Classical.choose_spec z
 rcases Nat.le_total n (Classical.choose z) with l|l
 ·exact nA q l
 ·exact (nA q2 l).symm
theorem qJ (gd:Good X N W G k) {c:Expr} {body:List Stmt} {mc:Mx Bool} {mb:Mst} {pos:Pos} (hc:MT X c mc) (hb:MSs X body mb):MS X (.While c body [] pos) (mWh mc mb):=by
 refine PS.imp (rL gd.po hc hb) fun D σ H ⟨ρ,σp,h,rs,rh,q⟩=>?_
 refine ⟨fun m σ H=>∃ρ σp h,RS X.K ρ H σp σ∧RH X.K X.mg ρ H h∧FulS X ρ H (mWhN mc mb m σp h) D,?_,?_⟩
 ·unfold mWh at q
  split at q
  ·exact ⟨_,ρ,σp,h,rs,rh,q⟩
  ·exact q.elim
 ·rintro m σ1 H1 ⟨ρ1,σp1,h1,rs1,rh1,q1⟩
  cases m with
  | zero=>exact q1.elim
  | succ m =>
   rw[mWhN] at q1
   refine ⟨ρ1,σp1,h1,rs1,rh1,FulS.ex q1 fun ρ2 H2 v v' h2 l2 r2 z w=>?_⟩
   cases z
   cases v with
   | false=>rw[if_neg Bool.false_ne_true] at w ⊢;exact w ρ2 H2 σ1 (Le.refl _ _) r2 (rs1.le l2)
   | true =>
    rw[if_pos rfl] at w ⊢
    refine ⟨fun σ H=>∃ρ σp h,RS X.K ρ H σp σ∧RH X.K X.mg ρ H h∧FulS X ρ H (mWhN mc mb m σp h) D,fun σ' H' z=>⟨m,Nat.lt_succ_self _,z⟩,ρ2,σp1,h2,rs1.le l2,r2,?_⟩
    cases em:mb σp1 h2 with
    | nx σ6 h6=>rw[em] at w;exact fun ρ7 H7 σ7 l7 r7 s7=>⟨ρ7,σ6,h6,s7,r7,FulS.le l7 w⟩
    | ct σ6 h6=>rw[em] at w;exact fun ρ7 H7 σ7 l7 r7 s7=>⟨ρ7,σ6,h6,s7,r7,FulS.le l7 w⟩
    | bk σ6 h6=>rw[em] at w;exact w
    | rt v h6=>rw[em] at w;exact w
    | exc e σ6 h6=>rw[em] at w;exact w
    | rse e σ6 h6=>rw[em] at w;exact w
    | bad=>rw[em] at w;exact w
end
section
variable {X:Cx} {N W G:List Str} {k:Nat}
def b7 (f:PV→Option PyData):List PV→Option (List PyData)
 | []=>some []
 | x::r=>match f x,b7 f r with
  | some d,some ds=>some (d::ds)
  | _,_=>none
def rd:Nat→MH→PV→Option PyData
 | 0,_,v=>(match v with
  | .non=>some .none
  | .bl b=>some (.bool b)
  | .int i=>some (.int i)
  | .str x=>some (.str x)
  | _=>none)
 | n+1,h,v=>(match v with
  | .non=>some .none
  | .bl b=>some (.bool b)
  | .int i=>some (.int i)
  | .str x=>some (.str x)
  | .tup xs=>(b7 (rd n h) xs).map PyData.tuple
  | .frl xs=>(b7 (rd n h) xs).map PyData.list
  | .loc m=>(match h[m]? with
   | some (.lst xs)=>(b7 (rd n h) xs).map PyData.list
   | _=>none))
theorem cT {hp:Heap} {f:PV→Option PyData} {K:PySem.W.Frag} {ρ:List Addr} {H:Hp} (hf:∀v v' u d,RP K ρ H v v'→RelV v' u→f v=some d→∃as,Reads hp u d as) :
  ∀{xs:List PV} {ys:List V} {us:List Value} {ds:List PyData},RPs K ρ H xs ys→Vals ys us→b7 f xs=some ds→∃as,ReadsAll hp us ds as
 | _,_,_,ds,.nil,.nil,e=>by cases e;exact ⟨_,.nil⟩
 | _,_,_,ds,.cons r t,.cons v w,e=>by
  simp only[b7] at e
  split at e
  ·rename_i d ds' e1 e2
   cases e
   obtain ⟨a1,q1⟩:=hf _ _ _ _ r v e1
   obtain ⟨a2,q2⟩:=cT hf t w e2
   exact ⟨_,.cons q1 q2⟩
  ·cases e
theorem cm {pins:List (Addr × Obj)} {σ:L2.St} {H:Hp} {s:Shared} {ρ:List Addr} {h:MH} (I:Inv X pins σ H s) (rh:RH X.K X.mg ρ H h) :
  ∀(n:Nat) (v:PV) (v':V) (u:Value) (d:PyData),RP X.K ρ H v v'→RelV v' u→rd n h v=some d→∃as,Reads s.heap u d as
 | 0,_,_,u,d,.non,r,e=>by cases e;cases r;exact ⟨_,.none⟩
 | 0,_,_,u,d,.bl b,r,e=>by cases e;cases r;exact ⟨_,.bool b⟩
 | 0,_,_,u,d,.int i,r,e=>by cases e;obtain ⟨t,rfl⟩:=r;exact ⟨_,.int i t⟩
 | 0,_,_,u,d,.str i,r,e=>by cases e;obtain ⟨t,rfl⟩:=r;exact ⟨_,.str i t⟩
 | 0,_,_,u,d,.tup _ _,r,e=>by cases e
 | 0,_,_,u,d,.frl _ _,r,e=>by cases e
 | 0,_,_,u,d,.loc _,r,e=>by cases e
 | n+1,_,_,u,d,.non,r,e=>by cases e;cases r;exact ⟨_,.none⟩
 | n+1,_,_,u,d,.bl b,r,e=>by cases e;cases r;exact ⟨_,.bool b⟩
 | n+1,_,_,u,d,.int i,r,e=>by cases e;obtain ⟨t,rfl⟩:=r;exact ⟨_,.int i t⟩
 | n+1,_,_,u,d,.str i,r,e=>by cases e;obtain ⟨t,rfl⟩:=r;exact ⟨_,.str i t⟩
 | n+1,.tup xs,_,u,d,.tup (a:=a) s rr,r,e=>by
  cases r
  simp only[rd] at e
  cases q:b7 (rd n h) xs with
  | none=>rw[q] at e;cases e
  | some ds =>
   rw[q] at e;cases e
   obtain ⟨its,rv,⟨o,e1,e2,m,e3⟩,_⟩:=I.tuple s
   obtain ⟨as,ra⟩:=cT (cm I rh n) rr rv q
   exact ⟨_,.tuple e1 e2 e3 (by simpa using ra)⟩
 | n+1,.frl xs,_,u,d,.frl (a:=a) s rr,r,e=>by
  cases r
  simp only[rd] at e
  cases q:b7 (rd n h) xs with
  | none=>rw[q] at e;cases e
  | some ds =>
   rw[q] at e;cases e
   obtain ⟨its,rv,⟨o,m,e1,e2,_,e3⟩,_⟩:=I.list s.sq
   obtain ⟨as,ra⟩:=cT (cm I rh n) rr rv q
   exact ⟨_,.list e1 e2 e3 (by simpa using ra)⟩
 | n+1,.loc m,_,u,d,.loc (a:=a) en,r,e=>by
  cases r
  simp only[rd] at e
  obtain ⟨ob,eo,rob⟩:=rh.obj en
  rw[eo] at e
  cases ob with
  | dic kvs=>cases e
  | exc x=>cases e
  | lst xs =>
   obtain ⟨ys,ey,ry⟩:=rob
   dsimp only at e
   cases q:b7 (rd n h) xs with
   | none=>rw[q] at e;cases e
   | some ds =>
    rw[q] at e;cases e
    obtain ⟨its,rv,⟨o,m',e1,e2,_,e3⟩,_⟩:=I.list (SqL.of (K:=X.K) ey)
    obtain ⟨as,ra⟩:=cT (cm I rh n) ry rv q
    exact ⟨_,.list e1 e2 e3 (by simpa using ra)⟩
noncomputable def opEq (x y:PV) (h:MH):Out PV:=match rd 60 h x,rd 60 h y with
 | some a,some b=>if SeqAt.shaped a=true∧SeqAt.shaped b=true then .ok (.bl (PyData.eqv a b)) h else .bad
 | _,_=>.bad
noncomputable def opNe (x y:PV) (h:MH):Out PV:=match rd 60 h x,rd 60 h y with
 | some a,some b=>if SeqAt.shaped a=true∧SeqAt.shaped b=true then .ok (.bl (!PyData.eqv a b)) h else .bad
 | _,_=>.bad
theorem bM (hr:Room k X.A):OpJ X (compareOp .Eq) opEq:=by
 intro pins s σ H x' y' u v Q I rx' ry' ⟨ρ,h,x,y,rh,rx,ry,q⟩
 unfold opEq at q
 split at q
 ·rename_i a b ea eb
  split at q
  ·rename_i hs
   obtain ⟨_,ra⟩:=cm I rh 60 x x' u a rx rx' ea
   obtain ⟨_,rb⟩:=cm I rh 60 y y' v b ry ry' eb
   exact eq_dataH ra rb hs.1 hs.2 hr.units ⟨.bl _,H,I,rfl,q ρ H _ (Le.refl _ _) rh (.bl _)⟩
  ·exact q.elim
 ·exact q.elim
theorem dP (hr:Room k X.A):OpJ X (compareOp .NotEq) opNe:=by
 intro pins s σ H x' y' u v Q I rx' ry' ⟨ρ,h,x,y,rh,rx,ry,q⟩
 unfold opNe at q
 split at q
 ·rename_i a b ea eb
  split at q
  ·rename_i hs
   obtain ⟨_,ra⟩:=cm I rh 60 x x' u a rx rx' ea
   obtain ⟨_,rb⟩:=cm I rh 60 y y' v b ry ry' eb
   exact ne_dataH ra rb hs.1 hs.2 hr.units ⟨.bl _,H,I,rfl,q ρ H _ (Le.refl _ _) rh (.bl _)⟩
  ·exact q.elim
 ·exact q.elim
def opII (f:Int→Int→PV):PV→PV→MH→Out PV:=fun x y h=>match x,y with
 | .int i,.int j=>.ok (f i j) h
 | _,_=>.bad
theorem kL {F:Value→Value→Sem Value} {f:Int→Int→V} {g:Int→Int→PV} (ho:OpR X F (rI0 f)) (hfg:∀ρ H i j,RP X.K ρ H (g i j) (f i j)):OpJ X F (opII g):=by
 intro pins s σ H x' y' u v Q I rx' ry' ⟨ρ,h,x,y,rh,rx,ry,q⟩
 cases rx with
 | int i =>
  cases ry with
  | int j=>exact ho pins s σ H _ _ u v Q I rx' ry' ⟨i,j,rfl,rfl,q ρ H _ (Le.refl _ _) rh (hfg ρ H i j)⟩
  | _=>exact q.elim
 | _=>cases ry <;> exact q.elim
noncomputable def opLt:=opII fun i j=>.bl (decide (i<j))
noncomputable def opGt:=opII fun i j=>.bl (decide (j<i))
noncomputable def opGe:=opII fun i j=>.bl (decide (j≤i))
theorem oj_lt:OpJ X (compareOp .Lt) opLt:=kL op_lt fun _ _ _ _=>.bl _
theorem kN:OpJ X (compareOp .Gt) opGt:=kL op_gt fun _ _ _ _=>.bl _
theorem oj_ge:OpJ X (compareOp .GtE) opGe:=kL op_ge fun _ _ _ _=>.bl _
def opIs (neg:Bool):PV→PV→MH→Out PV:=fun x y h=>match y with
 | .non=>(match x with
  | .non=>.ok (.bl (!neg)) h
  | _=>.ok (.bl neg) h)
 | .bl b=>(match x with
  | .bl c=>.ok (.bl (if neg then !(c == b) else c == b)) h
  | .non=>.ok (.bl neg) h
  | .int _=>.ok (.bl neg) h
  | .str _=>.ok (.bl neg) h
  | .tup _=>.ok (.bl neg) h
  | _=>.bad)
 | _=>.bad
noncomputable def opMul (x y:PV) (h:MH):Out PV:=match x,y with
 | .int i,.int j=>if IntMulOk i j then .ok (.int (i * j)) h else .bad
 | .loc n,.int j=>(match h[n]? with
  | some (.lst xs)=>if -(2 ^ 63)≤j∧j<2 ^ 63 then newL (List.flatten (List.replicate j.toNat xs)) h else .bad
  | _=>.bad)
 | _,_=>.bad
noncomputable def opFd (x y:PV) (h:MH):Out PV:=match x,y with
 | .int i,.int j=>if j≠0∧Builtin.divisionGoesByPylong i j=false then .ok (.int (i.fdiv j)) h else .bad
 | _,_=>.bad
noncomputable def opMod (x y:PV) (h:MH):Out PV:=match x,y with
 | .int i,.int j=>if j≠0 then .ok (.int (i.fmod j)) h else .bad
 | _,_=>.bad
noncomputable def opPow (x y:PV) (h:MH):Out PV:=match x,y with
 | .int i,.int j=>if CPow i j then .ok (.int (i ^ j.toNat)) h else .bad
 | _,_=>.bad
noncomputable def opAdd (x y:PV) (h:MH):Out PV:=match x,y with
 | .int i,.int j=>.ok (.int (i+j)) h
 | .str a,.str b=>if a.length+b.length≤sizeLine then .ok (.str (a++b)) h else .bad
 | .loc n,.loc m=>(match h[n]?,h[m]? with
  | some (.lst xs),some (.lst ys)=>newL (xs++ys) h
  | _,_=>.bad)
 | .tup xs,.tup ys=>if xs≠[] then newT (xs++ys) h else .bad
 | _,_=>.bad
noncomputable def opSub:=opII fun i j=>.int (i - j)
def opNeg (x:PV) (h:MH):Out PV:=match x with
 | .int i=>.ok (.int (-i)) h
 | _=>.bad
theorem fc:OpJ X (binaryOp .Sub) opSub:=kL op_sub fun _ _ _ _=>.int _
theorem jc:UnJ X (unaryOp .USub) opNeg:=by
 intro pins s σ H x' u Q I rx' ⟨ρ,h,x,rh,rx,q⟩
 cases rx with
 | int i=>exact un_neg pins s σ H _ u Q I rx' ⟨i,rfl,q ρ H _ (Le.refl _ _) rh (.int _)⟩
 | _=>exact q.elim
theorem kR:OpJ X (binaryOp .FloorDiv) opFd:=by
 intro pins s σ H x' y' u v Q I rx' ry' ⟨ρ,h,x,y,rh,rx,ry,q⟩
 cases rx with
 | int i =>
  cases ry with
  | int j =>
   dsimp only[opFd] at q
   split at q
   ·rename_i hc
    obtain ⟨t,rfl⟩:=rx'
    obtain ⟨t',rfl⟩:=ry'
    exact floordiv_int hc.1 ⟨.int _,H,I.tok _,⟨_,rfl⟩,q ρ H _ (Le.refl _ _) rh (.int _)⟩ (.inl hc.2)
   ·exact q.elim
  | _=>exact q.elim
 | _=>cases ry <;> exact q.elim
theorem cq:OpJ X (binaryOp .Mod) opMod:=by
 intro pins s σ H x' y' u v Q I rx' ry' ⟨ρ,h,x,y,rh,rx,ry,q⟩
 cases rx with
 | int i =>
  cases ry with
  | int j =>
   dsimp only[opMod] at q
   split at q
   ·rename_i hc
    obtain ⟨t,rfl⟩:=rx'
    obtain ⟨t',rfl⟩:=ry'
    exact mod_int' hc ⟨.int _,H,I.tok _,⟨_,rfl⟩,q ρ H _ (Le.refl _ _) rh (.int _)⟩
   ·exact q.elim
  | _=>exact q.elim
 | _=>cases ry <;> exact q.elim
theorem gX:OpJ X (binaryOp .Pow) opPow:=by
 intro pins s σ H x' y' u v Q I rx' ry' ⟨ρ,h,x,y,rh,rx,ry,q⟩
 cases rx with
 | int i =>
  cases ry with
  | int j =>
   dsimp only[opPow] at q
   split at q
   ·rename_i hc
    exact op_pow pins s σ H _ _ u v Q I rx' ry' ⟨i,j,rfl,rfl,hc,q ρ H _ (Le.refl _ _) rh (.int _)⟩
   ·exact q.elim
  | _=>exact q.elim
 | _=>cases ry <;> exact q.elim
theorem bj:OpJ X (binaryOp .Add) opAdd:=by
 intro pins s σ H x' y' u v Q I rx' ry' ⟨ρ,h,x,y,rh,rx,ry,q⟩
 cases rx with
 | int i =>
  cases ry with
  | int j=>exact op_add pins s σ H _ _ u v Q I rx' ry' ⟨i,j,rfl,rfl,q ρ H _ (Le.refl _ _) rh (.int _)⟩
  | _=>exact q.elim
 | str a =>
  cases ry with
  | str b =>
   dsimp only[opAdd] at q
   split at q
   ·rename_i hl
    exact oO pins s σ H _ _ u v Q I rx' ry' ⟨a,b,rfl,rfl,hl,q ρ H _ (Le.refl _ _) rh (.str _)⟩
   ·exact q.elim
  | _=>exact q.elim
 | @loc n a e =>
  cases ry with
  | @loc m b e2 =>
   dsimp only[opAdd] at q
   obtain ⟨o1,h1,r1⟩:=rh.obj e
   obtain ⟨o2,h2,r2⟩:=rh.obj e2
   rw[h1,h2] at q
   cases o1 with
   | dic kvs=>exact q.elim
   | exc x=>exact q.elim
   | lst xs =>
    cases o2 with
    | dic kvs=>exact q.elim
    | exc x=>exact q.elim
    | lst ys =>
     obtain ⟨xs',ex,rx1⟩:=r1
     obtain ⟨ys',ey,ry1⟩:=r2
     obtain ⟨z1,z2⟩:=ii rh (rx1.append ry1) q
     exact op_cat pins s σ H _ _ u v Q I rx' ry' ⟨a,b,xs',ys',rfl,rfl,ex,ey,by rw[←List.length_append];exact z1,z2⟩
  | _=>exact q.elim
 | tup s1 r1 =>
  cases ry with
  | tup s2 r2 =>
   dsimp only[opAdd] at q
   split at q
   ·rename_i hne
    obtain ⟨z1,z2⟩:=nH rh (r1.append r2) q
    refine op_catT pins s σ H _ _ u v Q I rx' ry' ⟨_,_,_,_,rfl,rfl,s1,s2,?_,by rw[←List.length_append];exact z1,fun z=>?_,fun _=>z2⟩
    ·rintro rfl
     cases r1
     exact hne rfl
    ·subst z
     cases r2
     unfold newT at q
     split at q
     ·exact q ρ H _ (Le.refl _ _) rh (by rw[List.append_nil];exact .tup s1 r1)
     ·exact q.elim
   ·exact q.elim
  | _=>exact q.elim
 | _=>cases ry <;> exact q.elim
theorem RPs.rep {K:PySem.W.Frag} {ρ:List Addr} {H:Hp} {xs:List PV} {ys:List V} (r:RPs K ρ H xs ys):∀n:Nat,RPs K ρ H (List.replicate n xs).flatten (List.replicate n ys).flatten
 | 0=>.nil
 | n+1=>by rw[List.replicate_succ,List.replicate_succ,List.flatten_cons,List.flatten_cons];exact r.append (RPs.rep r n)
end
section
variable {X:Cx} {N W G:List Str} {k:Nat}
theorem ba:OpJ X (binaryOp .Mult) opMul:=by
 intro pins s σ H x' y' u v Q I rx' ry' ⟨ρ,h,x,y,rh,rx,ry,q⟩
 cases rx with
 | int i =>
  cases ry with
  | int j =>
   dsimp only[opMul] at q
   split at q
   ·rename_i hc
    obtain ⟨t,rfl⟩:=rx'
    obtain ⟨t',rfl⟩:=ry'
    exact PyProof.Rows.mul_int ⟨.int _,H,I.tok _,⟨_,rfl⟩,q ρ H _ (Le.refl _ _) rh (.int _)⟩ hc
   ·exact q.elim
  | _=>exact q.elim
 | @loc n a e =>
  cases ry with
  | int j =>
   dsimp only[opMul] at q
   obtain ⟨o1,h1,r1⟩:=rh.obj e
   rw[h1] at q
   cases o1 with
   | dic kvs=>exact q.elim
   | exc x=>exact q.elim
   | lst xs =>
    dsimp only at q
    split at q
    ·rename_i hj
     obtain ⟨xs',ex,rx1⟩:=r1
     obtain ⟨z1,z2⟩:=ii rh (rx1.rep j.toNat) q
     refine op_rep pins s σ H _ _ u v Q I rx' ry' ⟨a,j,xs',rfl,rfl,ex,hj.1,hj.2,?_,z2⟩
     rw[mW] at z1
     rw[Nat.mul_comm];exact z1
    ·exact q.elim
  | _=>exact q.elim
 | _=>cases ry <;> exact q.elim
theorem jh {pins:List (Addr × Obj)} {σ:L2.St} {H:Hp} {s:Shared} {Q:VK} {x':V} {u:Value} {b c:Bool} (I:Inv X pins σ H s) (r:RelV x' u) (hp:plainIs u (.bool b)=true) (hc:(u == .bool b)=c) (q:Q (.bl c) H) :
  wpAny (model X.prog X.w) X.A (compareOp .Is u (.bool b)) (EP X pins σ Q) X.xe s:=by
 show wpAny _ _ (do return Value.bool (←isSame u (.bool b))) _ _ _
 exact wpAny_bind (wpAny_isSame_plain hp (wpAny_pure (by rw[hc];exact ⟨.bl c,H,I,rfl,q⟩)))
theorem gW {pins:List (Addr × Obj)} {σ:L2.St} {H:Hp} {s:Shared} {Q:VK} {x':V} {u:Value} {b c:Bool} (I:Inv X pins σ H s) (r:RelV x' u) (hp:plainIs u (.bool b)=true) (hc:(!(u == .bool b))=c) (q:Q (.bl c) H) :
  wpAny (model X.prog X.w) X.A (compareOp .IsNot u (.bool b)) (EP X pins σ Q) X.xe s:=by
 show wpAny _ _ (do return Value.bool (!(←isSame u (.bool b)))) _ _ _
 exact wpAny_bind (wpAny_isSame_plain hp (wpAny_pure (by rw[hc];exact ⟨.bl c,H,I,rfl,q⟩)))
theorem oj_is:OpJ X (compareOp .Is) (opIs false):=by
 intro pins s σ H x' y' u v Q I rx' ry' ⟨ρ,h,x,y,rh,rx,ry,q⟩
 cases ry with
 | non =>
  refine op_isN pins s σ H _ _ u v Q I rx' ry' ⟨rfl,?_⟩
  cases rx <;> exact q ρ H _ (Le.refl _ _) rh (by first | exact .bl true | exact .bl false)
 | bl b =>
  cases ry'
  cases rx with
  | non=>cases rx';exact jh (x':=.non) (c:=false) I rfl (by cases b <;> rfl) (by cases b <;> rfl) (q ρ H _ (Le.refl _ _) rh (.bl false))
  | bl c=>cases rx';exact jh (x':=.bl c) (c:=c == b) I rfl (by cases b <;> cases c <;> rfl) (by cases b <;> cases c <;> rfl) (q ρ H _ (Le.refl _ _) rh (.bl _))
  | int i=>obtain ⟨t,rfl⟩:=rx';exact jh (x':=.int i) (c:=false) I ⟨_,rfl⟩ (by cases b <;> rfl) (by cases b <;> rfl) (q ρ H _ (Le.refl _ _) rh (.bl false))
  | str i=>obtain ⟨t,rfl⟩:=rx';exact jh (x':=.str i) (c:=false) I ⟨_,rfl⟩ (by cases b <;> rfl) (by cases b <;> rfl) (q ρ H _ (Le.refl _ _) rh (.bl false))
  | tup s1 r1=>cases rx';exact jh (x':=.ref _) (c:=false) I rfl (by cases b <;> rfl) (by cases b <;> rfl) (q ρ H _ (Le.refl _ _) rh (.bl false))
  | _=>exact q.elim
 | _=>exact q.elim
theorem ji:OpJ X (compareOp .IsNot) (opIs true):=by
 intro pins s σ H x' y' u v Q I rx' ry' ⟨ρ,h,x,y,rh,rx,ry,q⟩
 cases ry with
 | non =>
  refine op_notN pins s σ H _ _ u v Q I rx' ry' ⟨rfl,?_⟩
  cases rx <;> exact q ρ H _ (Le.refl _ _) rh (by first | exact .bl true | exact .bl false)
 | bl b =>
  cases ry'
  cases rx with
  | non=>cases rx';exact gW (x':=.non) (c:=true) I rfl (by cases b <;> rfl) (by cases b <;> rfl) (q ρ H _ (Le.refl _ _) rh (.bl true))
  | bl c=>cases rx';exact gW (x':=.bl c) (c:=!(c == b)) I rfl (by cases b <;> cases c <;> rfl) (by cases b <;> cases c <;> rfl) (q ρ H _ (Le.refl _ _) rh (.bl _))
  | int i=>obtain ⟨t,rfl⟩:=rx';exact gW (x':=.int i) (c:=true) I ⟨_,rfl⟩ (by cases b <;> rfl) (by cases b <;> rfl) (q ρ H _ (Le.refl _ _) rh (.bl true))
  | str i=>obtain ⟨t,rfl⟩:=rx';exact gW (x':=.str i) (c:=true) I ⟨_,rfl⟩ (by cases b <;> rfl) (by cases b <;> rfl) (q ρ H _ (Le.refl _ _) rh (.bl true))
  | tup s1 r1=>cases rx';exact gW (x':=.ref _) (c:=true) I rfl (by cases b <;> rfl) (by cases b <;> rfl) (q ρ H _ (Le.refl _ _) rh (.bl true))
  | _=>exact q.elim
 | _=>exact q.elim
noncomputable def opIx (x y:PV) (h:MH):Out PV:=match y with
 | .int i=>(match x with
  | .loc n=>(match h[n]? with
   | some (.lst xs)=>(match atI xs i with
    | some v=>.ok v h
    | none=>.bad)
   | _=>.bad)
  | .tup xs=>(match atI xs i with
   | some v=>.ok v h
   | none=>.bad)
  | .frl xs=>(match atI xs i with
   | some v=>.ok v h
   | none=>.bad)
  | .str z=>(match atI z.cps.toList i with
   | some c=>if z.length≤sizeLine then .ok (.str ⟨#[c]⟩) h else .bad
   | none=>.bad)
  | _=>.bad)
 | _=>.bad
theorem jM {K:PySem.W.Frag} {ρ:List Addr} {H:Hp} {xs:List PV} {ys:List V} {i:Int} {v:PV} (r:RPs K ρ H xs ys) (e:atI xs i=some v):∃v',atI ys i=some v'∧RP K ρ H v v':=by
 unfold atI at e ⊢
 rw[←r.length]
 cases q:ixN xs.length i with
 | none=>rw[q] at e;cases e
 | some j =>
  rw[q] at e
  exact r.get e
theorem ax {a b:Expr} {ma mb:Mx PV} {pos:Pos} (ha:ME X a ma) (hb:ME X b mb) (hs:nK b):ME X (.Subscript a b pos) (mBin opIx ma mb):=by
 refine PE.imp (pe_ix ix_seq ha hb hs) fun σ H Q q=>?_
 obtain ⟨ρ,σp,h,rs,rh,q⟩:=q
 refine ⟨ρ,σp,h,rs,rh,Ful.bind q fun ρ1 H1 x x' h1 _ l1 rh1 rx q1=>⟨ρ1,σp,h1,rs.le l1,rh1,Ful.bind q1 fun ρ2 H2 y y' h2 _ l2 rh2 ry q2=>?_⟩⟩
 have rx2:=rx.le l2
 cases ry with
 | int i =>
  cases rx2 with
  | @loc n a e =>
   obtain ⟨ob,eo,rob⟩:=rh2.obj e
   dsimp only[opIx] at q2
   rw[eo] at q2
   cases ob with
   | dic kvs=>exact q2.elim
   | exc x=>exact q2.elim
   | lst xs =>
    obtain ⟨ys,ey,rr⟩:=rob
    dsimp only at q2
    cases ea:atI xs i with
    | none=>rw[ea] at q2;exact q2.elim
    | some v =>
     rw[ea] at q2
     obtain ⟨v',e',rv⟩:=jM rr ea
     exact .inl ⟨a,ys,i,v',rfl,rfl,SqL.of ey,e',q2 ρ2 H2 _ (Le.refl _ _) rh2 rv⟩
  | @tup xs a ys s1 rr =>
   dsimp only[opIx] at q2
   cases ea:atI xs i with
   | none=>rw[ea] at q2;exact q2.elim
   | some v =>
    rw[ea] at q2
    obtain ⟨v',e',rv⟩:=jM rr ea
    exact .inr (.inl ⟨_,_,i,v',rfl,rfl,s1,e',q2 ρ2 H2 _ (Le.refl _ _) rh2 rv⟩)
  | @frl xs a ys s1 rr =>
   dsimp only[opIx] at q2
   cases ea:atI xs i with
   | none=>rw[ea] at q2;exact q2.elim
   | some v =>
    rw[ea] at q2
    obtain ⟨v',e',rv⟩:=jM rr ea
    exact .inl ⟨_,_,i,v',rfl,rfl,s1.sq,e',q2 ρ2 H2 _ (Le.refl _ _) rh2 rv⟩
  | str z =>
   dsimp only[opIx] at q2
   cases ea:atI z.cps.toList i with
   | none=>rw[ea] at q2;exact q2.elim
   | some c =>
    rw[ea] at q2
    dsimp only at q2
    split at q2
    ·rename_i hz
     exact .inr (.inr ⟨z,i,c,rfl,rfl,hz,ea,q2 ρ2 H2 _ (Le.refl _ _) rh2 (.str _)⟩)
    ·exact q2.elim
  | _=>exact q2.elim
 | _=>exact q2.elim
def mCB (f:List PV→MH→Out PV) (m:Mx (List PV)):Mx PV:=fun σ h=>(m σ h).bind fun xs h1=>(f xs h1).ne
section
variable {x:Str} {id T:String} {e:Expr} {es:List Expr} {f:List PV→MH→Out PV} {m:Mx (List PV)} {p pos:Pos}
theorem tM_cb {σ:L2.St} {H:Hp} {Q:VK} (q:tM X (RV' X) (mCB f m) σ H Q):tCB (cJ X f) (tM X (RVs' X) m) σ H Q:=by
 obtain ⟨ρ,σp,h,rs,rh,q⟩:=q
 exact ⟨ρ,σp,h,rs,rh,Ful.bind q fun ρ1 H1 x x' h1 _ l1 rh1 rx q1=>⟨ρ1,h1,x,rh1,rx,q1.zero⟩⟩
theorem bi (g:Good X N W G k) (j:Nat) (hj:G[j]?=some x) (hc:dR X (.builtin id) f) (hm:X.mg x=none) (hv:bootBuiltins x=some (.builtin id)) (ha:MA X (e::es) m)
  (he:starEach (e::es) X.env=(false,eval e X.env)::starEach es X.env:=by rfl) (hpl:(backTo pos (starEach es X.env)).any (·.1)=false:=by rfl):ME X (.Call (.Name x p) (e::es) [] pos) (mCB f m) :=
 have d:=g.dbg x (List.mem_append_right _ (aL hj))
 PE.imp (lu hc (g.gl x (aL hj)) hm hv ha d.2.2 d.1 he hpl) fun _ _ _ q=>tM_cb q
theorem bc (g:Good X N W G k) (j:Nat) (hj:G[j]?=some x) (hc:dR X (.type T) f) (hm:X.mg x=none) (hv:bootBuiltins x=some (.type T)) (ha:MA X (e::es) m)
  (he:starEach (e::es) X.env=(false,eval e X.env)::starEach es X.env:=by rfl) (hpl:(backTo pos (starEach es X.env)).any (·.1)=false:=by rfl):ME X (.Call (.Name x p) (e::es) [] pos) (mCB f m) :=
 have d:=g.dbg x (List.mem_append_right _ (aL hj))
 PE.imp (j6 hc (g.gl x (aL hj)) hm hv ha d.2.2 d.1 he hpl) fun _ _ _ q=>tM_cb q
end
def fAbs (xs:List PV) (h:MH):Out PV:=match xs with
 | [.int i]=>.ok (.int (if i<0 then -i else i)) h
 | _=>.bad
def fMin (xs:List PV) (h:MH):Out PV:=match xs with
 | [.int i,.int j]=>.ok (.int (if j<i then j else i)) h
 | _=>.bad
def fInt (xs:List PV) (h:MH):Out PV:=match xs with
 | [.int i]=>.ok (.int i) h
 | [.bl b]=>.ok (.int (if b then 1 else 0)) h
 | _=>.bad
noncomputable def fLen (xs:List PV) (h:MH):Out PV:=match xs with
 | [.loc n]=>(match h[n]? with
  | some (.lst ys)=>.ok (.int ys.length) h
  | _=>.bad)
 | [.tup ys]=>.ok (.int ys.length) h
 | [.frl ys]=>.ok (.int ys.length) h
 | [.str z]=>if z.length≤sizeLine then .ok (.int z.length) h else .bad
 | _=>.bad
theorem jb:dR X (.builtin "abs") fAbs:=by
 intro pins s σ H xs us Q I r ⟨ρ,h,ps,rh,rp,q⟩
 cases rp with
 | nil=>exact q.elim
 | cons r1 t1 =>
  cases t1 with
  | cons _ _=>cases r1 <;> exact q.elim
  | nil =>
   cases r1 with
   | int i=>exact sj pins s σ H _ us Q I r ⟨i,rfl,q ρ H _ (Le.refl _ _) rh (.int _)⟩
   | _=>exact q.elim
theorem rM {f:List PV→MH→Out PV} {F:Int→Int→Int} {r:List V→Hp→VK→Prop} {V0:Value} (hf:∀i j h,f [.int i,.int j] h=.ok (.int (F i j)) h) (hb:∀xs h,(∀i j,xs≠[.int i,.int j])→f xs h=.bad)
  (hc:cW X V0 (fun xs H Q=>∃i j,xs=[.int i,.int j]∧Q (.int (F i j)) H)):dR X V0 f:=by
 intro pins s σ H xs us Q I r ⟨ρ,h,ps,rh,rp,q⟩
 by_cases z:∃i j,ps=[.int i,.int j]
 ·obtain ⟨i,j,rfl⟩:=z
  cases rp with
  | cons r1 t1=>cases t1 with
   | cons r2 t2 =>
    cases t2
    cases r1
    cases r2
    rw[hf] at q
    exact hc pins s σ H _ us Q I r ⟨i,j,rfl,q ρ H _ (Le.refl _ _) rh (.int _)⟩
 ·rw[hb ps h fun i j e=>z ⟨i,j,e⟩] at q
  exact q.elim
theorem pw (g:Good X N W G k):dR X (.builtin "min") fMin:=rM (r:=fun _ _ _=>True) (F:=fun i j=>if j<i then j else i) (fun _ _ _=>rfl) (fun xs h z=>by unfold fMin;split <;> first | rfl | exact absurd rfl (z _ _)) (oX g.calm)
theorem pW:dR X (.type "int") fInt:=by
 intro pins s σ H xs us Q I r ⟨ρ,h,ps,rh,rp,q⟩
 cases rp with
 | nil=>exact q.elim
 | cons r1 t1 =>
  cases t1 with
  | cons _ _=>cases r1 <;> exact q.elim
  | nil =>
   cases r1 with
   | int i=>exact j7 pins s σ H _ us Q I r (.inl ⟨i,rfl,q ρ H _ (Le.refl _ _) rh (.int _)⟩)
   | bl b=>exact j7 pins s σ H _ us Q I r (.inr ⟨b,rfl,q ρ H _ (Le.refl _ _) rh (.int _)⟩)
   | _=>exact q.elim
theorem eT:dR X (.builtin "len") fLen:=by
 intro pins s σ H xs us Q I r ⟨ρ,h,ps,rh,rp,q⟩
 cases rp with
 | nil=>exact q.elim
 | cons r1 t1 =>
  cases t1 with
  | cons _ _=>cases r1 <;> exact q.elim
  | nil =>
   cases r1 with
   | @loc n a e =>
    obtain ⟨ob,eo,rob⟩:=rh.obj e
    dsimp only[fLen] at q
    rw[eo] at q
    cases ob with
    | dic kvs=>exact q.elim
    | exc x=>exact q.elim
    | lst xs =>
     obtain ⟨ys,ey,rr⟩:=rob
     exact gm pins s σ H _ us Q I r ⟨_,_,rfl,.inl ⟨ys,SqL.of ey,rfl⟩,by rw[←rr.length];exact q ρ H _ (Le.refl _ _) rh (.int _)⟩
   | tup s1 rr=>exact gm pins s σ H _ us Q I r ⟨_,_,rfl,.inr ⟨_,s1,rfl⟩,by rw[←rr.length];exact q ρ H _ (Le.refl _ _) rh (.int _)⟩
   | frl s1 rr=>exact gm pins s σ H _ us Q I r ⟨_,_,rfl,.inl ⟨_,s1.sq,rfl⟩,by rw[←rr.length];exact q ρ H _ (Le.refl _ _) rh (.int _)⟩
   | str z =>
    dsimp only[fLen] at q
    split at q
    ·rename_i hz
     exact gm pins s σ H _ us Q I r ⟨_,_,rfl,⟨hz,rfl⟩,q ρ H _ (Le.refl _ _) rh (.int _)⟩
    ·exact q.elim
   | _=>exact q.elim
end
section
variable {X:Cx} {N W G:List Str} {k:Nat}
def tyP (h:MH):PV→Option String
 | .non=>some "NoneType"
 | .bl _=>some "bool"
 | .int _=>some "int"
 | .str _=>some "str"
 | .tup _=>some "tuple"
 | .frl _=>some "list"
 | .loc n=>match h[n]? with
  | some (.lst _)=>some "list"
  | some (.dic _)=>some "dict"
  | _=>none
def isaT (t:String) (T:String):Bool:=t == T || (t == "bool" && T == "int")
def fIsi (Ts:List String) (x:PV) (h:MH):Out PV:=match tyP h x with
 | some t=>.ok (.bl (Ts.any (isaT t))) h
 | none=>.bad
def okT (T:String):Prop:=∀K:PySem.W.Frag,∀t∈["NoneType","bool","int","str","tuple","list","dict"],PySem.W.kitOne K (.type t) (.type T)=some (isaT t T)
theorem okT_of {T:String} (h1:∀K,PySem.W.kitOne K (.type "NoneType") (.type T)=some (isaT "NoneType" T)) (h2:∀K,PySem.W.kitOne K (.type "bool") (.type T)=some (isaT "bool" T)) (h3:∀K,PySem.W.kitOne K (.type "int") (.type T)=some (isaT "int" T))
  (h4:∀K,PySem.W.kitOne K (.type "str") (.type T)=some (isaT "str" T)) (h5:∀K,PySem.W.kitOne K (.type "tuple") (.type T)=some (isaT "tuple" T)) (h6:∀K,PySem.W.kitOne K (.type "list") (.type T)=some (isaT "list" T))
  (h7:∀K,PySem.W.kitOne K (.type "dict") (.type T)=some (isaT "dict" T)):okT T:=by
 intro K t ht
 simp only[List.mem_cons,List.not_mem_nil,or_false] at ht
 rcases ht with rfl|rfl|rfl|rfl|rfl|rfl|rfl
 ·exact h1 K
 ·exact h2 K
 ·exact h3 K
 ·exact h4 K
 ·exact h5 K
 ·exact h6 K
 ·exact h7 K
theorem gi:okT "bool":=okT_of (fun _=>rfl) (fun _=>rfl) (fun _=>rfl) (fun _=>rfl) (fun _=>rfl) (fun _=>rfl) (fun _=>rfl)
theorem kitx_of {pins:List (Addr × Obj)} {σ:L2.St} {H:Hp} {s:Shared} {ρ:List Addr} {h:MH} {x:PV} {x':V} {u:Value} {t:String} (I:Inv X pins σ H s) (rh:RH X.K X.mg ρ H h) (rx:RP X.K ρ H x x') (ru:RelV x' u) (e:tyP h x=some t) :
  t∈["NoneType","bool","int","str","tuple","list","dict"]∧u≠.builtin "__main__.__loader__#opaque"∧∃Hq,PySem.W.KitX X.K u (.type t) Hq∧Hq s.heap:=by
 cases rx with
 | non=>cases e;cases ru;exact ⟨by simp,(fun z=>nomatch z),_,PySem.W.kitx_none,trivial⟩
 | bl b=>cases e;cases ru;exact ⟨by simp,(fun z=>nomatch z),_,PySem.W.kitx_bool,trivial⟩
 | int i=>cases e;obtain ⟨t,rfl⟩:=ru;exact ⟨by simp,(fun z=>nomatch z),_,PySem.W.kitx_int,trivial⟩
 | str i=>cases e;obtain ⟨t,rfl⟩:=ru;exact ⟨by simp,(fun z=>nomatch z),_,PySem.W.kitx_str,trivial⟩
 | tup s1 r1 =>
  cases e;cases ru
  obtain ⟨its,rv,⟨o,e1,e2,_⟩,_⟩:=I.tuple s1
  exact ⟨by simp,(fun z=>nomatch z),_,PySem.W.kitx_tuple,⟨o,e1,e2⟩⟩
 | frl s1 r1 =>
  cases e;cases ru
  obtain ⟨its,rv,⟨o,m,e1,e2,_,e3⟩,_⟩:=I.list s1.sq
  exact ⟨by simp,(fun z=>nomatch z),_,PySem.W.kitx_list,⟨o,e1,e2⟩⟩
 | @loc n a en =>
  obtain ⟨ob,eo,rob⟩:=rh.obj en
  dsimp only[tyP] at e
  rw[eo] at e
  cases ru
  cases ob with
  | lst xs =>
   cases e
   obtain ⟨ys,ey,_⟩:=rob
   obtain ⟨its,rv,⟨o,m,e1,e2,_,e3⟩,_⟩:=I.list (SqL.of (K:=X.K) ey)
   exact ⟨by simp,(fun z=>nomatch z),_,PySem.W.kitx_list,⟨o,e1,e2⟩⟩
  | dic kvs =>
   cases e
   obtain ⟨_,ey⟩:=rob
   obtain ⟨_,_,vs,_,p⟩:=(show ObjOk X.prog X.w H s.heap a (.dK []) from I.hok a _ ey)
   obtain ⟨o,es,ep,h1,h2,_⟩:=p
   exact ⟨by simp,(fun z=>nomatch z),_,PySem.W.kitx_dict,⟨o,h1,h2.1⟩⟩
  | exc x=>cases e
theorem jd (g:Good X N W G k) {a:Expr} {m:Mx PV} {T:String} {c:Str} {i j:Nat} {p q pos:Pos} (hi:G[i]?=some "isinstance") (hm:X.mg "isinstance"=none) (hj:G[j]?=some c) (hc:X.mg c=none) (hv:bootBuiltins c=some (.type T)) (hT:okT T) (ha:ME X a m)
  (he:starEach [a,.Name c q] X.env=(false,eval a X.env)::starEach [.Name c q] X.env:=by rfl) (he2:starEach [.Name c q] X.env=[(false,eval (.Name c q) X.env)]:=by rfl) (hpl:(backTo pos (starEach [.Name c q] X.env)).any (·.1)=false:=by rfl) :
  ME X (.Call (.Name "isinstance" p) [a,.Name c q] [] pos) (mUn (fIsi [T]) m):=by
 have d1:=g.dbg _ (List.mem_append_right _ (aL hi))
 have d:=g.dbg c (List.mem_append_right _ (aL hj))
 have hcall:cW X (.builtin "isinstance") (fun xs H Q=>∃x',xs=[x',.ty T]∧uJ X (fIsi [T]) x' H Q):=by
  intro pins s σ H xs us Q I r ⟨x',e,ρ,h,x,rh,rx,q⟩
  subst e
  cases r with
  | cons r1 t1=>cases t1 with
   | cons r2 t2 =>
    cases t2
    obtain rfl:=(show _=Value.type T from r2)
    unfold fIsi at q
    cases et:tyP h x with
    | none=>rw[et] at q;exact q.elim
    | some t =>
     rw[et] at q
     obtain ⟨ht,hne,Hq,Z,hz⟩:=kitx_of I rh rx r1 et
     exact PySem.W.kia_one Z I.kIn hz (hT X.K t ht) hne fun tk=>⟨.bl _,H,I.tok _,rfl,by
      have q':=q ρ H _ (Le.refl _ _) rh (.bl _)
      simpa using q'⟩
 refine PE.imp (lu hcall (g.gl _ (aL hi)) hm PyProof.Rows.Boot.«isinstance» (iu ha (iu (pe_bltn (v:=.ty T) (u:=.type T) (g.gl c (aL hj)) hc hv rfl d.2.2 d.1) la he2) he) d1.2.2 d1.1 he hpl) fun σ H Q ⟨ρ,σp,h,rs,rh,q⟩=>?_
 exact ⟨ρ,σp,h,rs,rh,Ful.bind q fun ρ1 H1 x x' h1 _ l1 rh1 rx q1=>⟨x',rfl,ρ1,h1,x,rh1,rx,q1.zero⟩⟩
def spM (K:PySem.W.Frag) (mg:MGl) (F:List PV→MH→Out PV):Sp:=fun vs H Q E=>∃ρ ps h,RPs K ρ H ps vs∧RH K mg ρ H h∧match F ps h with
 | .ok v h'=>∀ρ' H' v',Le ρ H ρ' H'→RH K mg ρ' H' h'→RP K ρ' H' v v'→Q v' H'
 | .exc x h'=>∀C ρ' H',x.fs=[]→mg x.cls=some (.ref C)→Le ρ H ρ' H'→RH K mg ρ' H' h'→E (.ref C) none H'
 | .bad=>False
def CXm (P:Program) (w:World):CXT:=fun outer H s E e s'=>∃ea C H',e=.ref ea∧s'.os=s.os∧AllBare s'.gens∧Un (frs outer) [] H H' s.heap s'.heap∧HOk P w H' s'.heap∧Fly outer H' s.heap C ea s'.heap∧E (.ref C) none H'
structure Cal (X:Cx) (x:Str) (ps:List Str) (F:List PV→MH→Out PV) (k:Nat):Prop where
 ex:∃f fd,X.mg x=some (.ref f)∧PySem.W.keepIn X.K (.ref f)=true∧jH X.K fd ps []∧FnOk X.prog X.w X.K X.mg X.base (CXm X.prog X.w) k f fd ps (spM X.K X.mg F)
theorem Cal.to {Y:Cx} {x:Str} {ps:List Str} {F:List PV→MH→Out PV} {i:Nat} (c:Cal X x ps F i) (e1:Y.prog=X.prog) (e2:Y.w=X.w) (e3:Y.K=X.K) (e4:Y.mg=X.mg) (e5:Y.base=X.base):Cal Y x ps F i:=by
 obtain ⟨f,fd,a,b,d,e⟩:=c.ex
 refine ⟨f,fd,by rw[e4];exact a,by rw[e3];exact b,by rw[e3];exact d,?_⟩
 rw[e1,e2,e3,e4,e5];exact e
def av (F:List PV→MH→Out PV) (m:Mx (List PV)):Mx PV:=fun σ h=>(m σ h).bind F
theorem ak (g:Good X N W G k) {x:Str} {j:Nat} (hj:G[j]?=some x) {ps:List Str} {F:List PV→MH→Out PV} (C:Cal X x ps F k) {e:Expr} {es:List Expr} {m:Mx (List PV)} {p pos:Pos} (ha:MA X (e::es) m)
  (he:starEach (e::es) X.env=(false,eval e X.env)::starEach es X.env:=by rfl) (hpl:(backTo pos (starEach es X.env)).any (·.1)=false:=by rfl):ME X (.Call (.Name x p) (e::es) [] pos) (av F m):=by
 obtain ⟨f,fd,hm,hk,hb,F'⟩:=C.ex
 have d:=g.dbg x (List.mem_append_right _ (aL hj))
 intro pins s σ H Q I ⟨ρ,σp,h,rs,rh,q⟩
 refine wpAny_Call_Name_kw (nc I (g.gl x (aL hj)) hm ?_ d.1)
 refine PySem.W.callWith_K (h₀:=X.base) I.ok.mod.kin hk (thn (ha pos pins s σ H (fun vs H1=>∃ρ1 xs h1,Le ρ H ρ1 H1∧RH X.K X.mg ρ1 H1 h1∧RPs X.K ρ1 H1 xs vs∧Ful X (RV' X) σp ρ1 H1 (F xs h1) Q) I
  ⟨ρ,σp,h,rs,rh,Ful.bind q fun ρ1 H1 xs vs h1 _ l1 rh1 rx q1=>⟨ρ1,xs,h1,l1,rh1,rx,q1⟩⟩) fun us s1 ⟨vs,H1,I1,r,ρ1,xs,h1,l1,rh1,rx,q1⟩=>⟨I1.kIn,?_⟩) he hpl
 have run:∀E:XK,spM X.K X.mg F vs H1 Q E→(∀ea C H' s',s'.os=s1.os→AllBare s'.gens→Un (frs X.stack) [] H1 H' s1.heap s'.heap→HOk X.prog X.w H' s'.heap→Fly X.stack H' s1.heap C ea s'.heap→E (.ref C) none H'→X.xe (.ref ea) s') →
   wpAny (model X.prog X.w) X.A (call (.ref f) us) (EP X pins σ Q) X.xe s1:=fun E hsp hE=>by
  have hl:(us++[]).length=ps.length:=by rw[List.append_nil,←r.length];exact F'.len _ _ _ _ hsp
  have hb1:=hb s1 us I1.kIn hl
  rw[List.append_nil] at hb1
  refine wpAny_call (codeAny_mono (F'.run X.A X.stack s1 H1 ⟨us,[]⟩ us vs Q E g.room I1.env0 hb1 r hsp) fun r s' hq=>?_)
  cases r with
  | error e =>
   obtain ⟨ea,C,H',rfl,a1,a2,a3,a4,a5,a6⟩:=hq
   exact hE ea C H' s' a1 a2 a3 a4 a5 a6
  | ok fl =>
   cases fl with
   | ret u=>exact I1.after hq
   | next=>exact False.elim hq
   | brk=>exact False.elim hq
   | cont=>exact False.elim hq
 cases eF:F xs h1 with
 | bad=>rw[eF] at q1;exact q1.elim
 | ok v h' =>
  rw[eF] at q1
  exact run (fun _ _ _=>False) ⟨ρ1,xs,h1,rx,rh1,by rw[eF];exact q1⟩ fun _ _ _ _ _ _ _ _ _ z=>z.elim
 | exc x' h' =>
  rw[eF] at q1
  refine run (fun c _ H'=>∃C ρ',c=.ref C∧x'.fs=[]∧X.mg x'.cls=some (.ref C)∧Le ρ1 H1 ρ' H'∧RH X.K X.mg ρ' H' h') ⟨ρ1,xs,h1,rx,rh1,by rw[eF];exact fun C ρ' H' a b c d=>⟨C,ρ',rfl,a,b,c,d⟩⟩ fun ea C H' s' a1 a2 a3 a4 a5 a6=>?_
  obtain ⟨C',ρ',eC,b1,b2,b3,b4⟩:=a6
  cases eC
  have IX:=I1.call' (s':=s') (ch:=[]) a1 a3 a4 a2 (fun b z=>absurd z (by simp))
  have IX0:Inv X [] σ H' s':=Inv.unpinned (pins:=[]) (pl:=pins) IX
  exact q1 ea C ρ' H' σ s' s1.heap b1 b2 b3 b4 (rs.le (l1.trans b3)) IX0 (Inv.bears I1) a5
def bL (n:Nat) (ps:List PV):PSt:=ps.map some++List.replicate (n - ps.length) none
noncomputable def mDef (n np:Nat) (m:Mst):List PV→MH→Out PV:=fun ps h=>if ps.length=np then (match m (bL n ps) h with
 | .nx _ h'=>.ok .non h'
 | .rt v h'=>.ok v h'
 | .exc x _ h'=>.exc x h'
 | .rse x _ h'=>.exc x h'
 | _=>.bad) else .bad
theorem rm {K:PySem.W.Frag} {ρ:List Addr} {H:Hp} {N:List Str} {ps:List PV} {vs:List V} (r:RPs K ρ H ps vs):RS K ρ H (bL N.length ps) (L2.start N vs):=by
 have hl:=r.length
 refine ⟨by simp[bL,L2.start,hl],fun i v e=>?_⟩
 unfold bL at e
 by_cases hi:i<ps.length
 ·rw[List.getElem?_append_left (by simpa using hi),List.getElem?_map] at e
  cases q:ps[i]? with
  | none=>rw[q] at e;cases e
  | some x =>
   rw[q] at e
   cases e
   obtain ⟨v',e',rv⟩:=r.get q
   refine ⟨v',?_,rv⟩
   unfold L2.start
   rw[List.getElem?_append_left (by simp;omega),List.getElem?_map,e'];rfl
 ·rw[List.getElem?_append_right (by simpa using hi),List.getElem?_replicate] at e
  split at e <;> cases e
theorem rN {B h:Heap} (k:B.StaysIn h) {b:Addr} {o ob:Obj} (e1:B.get? b=some ob) (e2:h.get? b=some o):ob=o:=by
 have:=k b ob e1
 rw[e2] at this
 exact (Option.some.inj this).symm
theorem ni {X:Cx} {σ':L2.St} {H':Hp} {s':Shared} {h' B:Heap} (I:Inv X [] σ' H' s') (hex:X.ex=[]) (hB:B.StaysIn s'.heap) (hB':B.StaysIn h') (sm:s'.heap.UpToSlots h')
  (cov:∀b o,X.s₀.heap.get? b=some o→b∉X.fs→∃ob,B.get? b=some ob) (cvH:∀b o,H' b=some o→∃ob,B.get? b=some ob):Un X.fs [] X.H₀ H' X.s₀.heap h'∧HOk X.prog X.w H' h':=by
 have nex:∀b:Addr,b∉X.ex:=fun b=>by rw[hex];simp
 have kp:∀b o ob,B.get? b=some ob→s'.heap.get? b=some o→h'.get? b=some o:=fun b o ob e1 e2=>by
  have:=rN hB e1 e2
  subst this
  exact hB' b ob e1
 refine ⟨⟨fun b o e n hf _=>?_,fun b o e n hf _=>?_,fun b o e n _=>I.base.free b o e n (nex b),fun b o e _=>?_,I.base.tups,I.base.frzs,I.base.tbls⟩,fun a o e=>?_⟩
 ·obtain ⟨ob,eb⟩:=cov b o e hf
  exact kp b o ob eb (I.base.keep b o e n hf (nex b))
 ·obtain ⟨sl,e1⟩:=I.base.slot b o e n hf (nex b)
  obtain ⟨_,oF,eF,dF⟩:=I.ok.funs.mem hf
  rw[e] at eF
  cases eF
  obtain ⟨sl',e2⟩:=sm b _ e1 (fun vs z=>dF vs z)
  exact ⟨sl',e2⟩
 ·by_cases hf:b∈X.fs
  ·obtain ⟨_,oF,eF,dF⟩:=I.ok.funs.mem hf
   rw[e] at eF
   cases eF
   obtain ⟨sl,e1⟩:=I.base.slot b o e (I.ok.frf b hf) hf (nex b)
   obtain ⟨sl',e2⟩:=sm b _ e1 (fun vs z=>dF vs z)
   exact ⟨_,e2⟩
  ·obtain ⟨ob,eb⟩:=cov b o e hf
   exact ⟨ob,hB' b ob eb⟩
 ·refine (I.hok a o e).stay (fun b u hb z=>?_) (fun _ z=>z) fun _ _ z=>z
  rcases hb with rfl|hb
  ·obtain ⟨ob,eb⟩:=cvH _ _ e
   exact kp _ u ob eb z
  ·obtain ⟨ob,eb⟩:=cvH _ _ hb
   exact kp _ u ob eb z
theorem _root_.L2.ObjOk.has {P:Program} {w:World} {H:Hp} {h:Heap} {a:Addr} {o:HO} (x:ObjOk P w H h a o):∃u,h.get? a=some u:=by
 cases o with
 | lst xs=>obtain ⟨_,_,_,_,e⟩:=x;exact ⟨_,e⟩
 | tup xs=>obtain ⟨_,_,_,o,e,_⟩:=x;exact ⟨o,e⟩
 | dK kvs=>obtain ⟨_,_,_,_,o,_,_,e,_⟩:=x;exact ⟨o,e⟩
 | dT kvs=>obtain ⟨_,_,_,_,o,_,_,e,_⟩:=x;exact ⟨o,e⟩
 | set S n=>obtain ⟨o,_,_,_,e,_⟩:=x;exact ⟨o,e⟩
 | ins C dx fs=>obtain ⟨_,_,_,e,_⟩:=x;exact ⟨_,e⟩
 | own y=>obtain ⟨o,e⟩:=x;exact ⟨o,e⟩
 | xd fs=>obtain ⟨_,⟨o,_,_,e,_⟩,_⟩:=x;exact ⟨o,e⟩
 | rng lo hi=>obtain ⟨_,_,_,e⟩:=x;exact ⟨_,e⟩
 | frz ob u=>obtain ⟨e,_⟩:=x;exact ⟨_,e⟩
 | tbl ps=>exact ⟨_,(show h.get? a=some _ from x)⟩
 | met f y=>exact ⟨_,(show h.get? a=some _ from x)⟩
 | ext φ=>obtain ⟨_,⟨o,e⟩,_⟩:=x;exact ⟨o,e⟩
structure DefCx (X:Cx):Prop where
 stk:X.stack=X.env::X.outer
 fr:X.env.frame=some X.env.locals
 ex:X.ex=[]
theorem fn_M {P:Program} {w:World} {K:PySem.W.Frag} {mg:Str→Option Value} {base:Heap} {x qual:Str} {st:Stmt} {f:Addr} {fd:FuncData} {ps:List Str} {m:Mst} (Fu:Fun K x qual st f fd) (S:FnScope N ps (al st))
  (hl:∀y∈N,Loc (al st) y) (hgl:∀y∈G,(al st).names.lookup y=some .globalImplicit)
  (dbg:∀x∈N++G,(x == ("__debug__":Str))=false∧(x == ("__classdict__":Str))=false∧x≠"__name__")
  (hb:∀X:Cx,X.prog=P→X.w=w→X.K=K→X.mg=mg→X.base=base→X.env.scope=al st→Good X N N G k→DefCx X→MSs X (aJ st) m) :
  FnOk P w K mg base (CXm P w) (k+1) f fd ps (spM K mg (mDef N.length ps.length m)):=by
 have len:∀vs H Q E,spM K mg (mDef N.length ps.length m) vs H Q E→vs.length=ps.length:=by
  rintro vs H Q E ⟨ρ,zs,h,r,rh,q⟩
  rw[←r.length]
  unfold mDef at q
  by_cases hp:zs.length=ps.length
  ·exact hp
  ·rw[if_neg hp] at q;exact q.elim
 obtain ⟨oc,od,kV,doc,pm,an,cdv,ct,osl,rfl,lk,hcd⟩:=Fu.ex
 refine fn_of lk hcd S len fun A outer s H vs Q E hr hsp=>?_
 obtain ⟨ρ,zs,h,r,rh,q⟩:=hsp
 refine ⟨_,hb _ rfl rfl rfl rfl rfl rfl ⟨rfl,S.nd,hl,fun _ _=>.inl rfl,hgl,dbg,rfl,hr,PassesOwn.leaving⟩ ⟨rfl,rfl,rfl⟩,ρ,bL N.length zs,h,rm r,rh,?_⟩
 unfold mDef at q
 by_cases hp:zs.length=ps.length
 ·rw[if_pos hp] at q
  cases e:m (bL N.length zs) h with
  | nx σ' h'=>rw[e] at q;exact fun ρ' H' σ' l r' s'=>q ρ' H' .non l r' .non
  | rt v h'=>rw[e] at q;exact q
  | bk σ h'=>rw[e] at q;exact q.elim
  | ct σ h'=>rw[e] at q;exact q.elim
  | bad=>rw[e] at q;exact q.elim
  | exc x σ h' =>
   rw[e] at q
   intro ea C ρ' H' σ' s' lim hfs hmg l rh' rs' I' brs fly
   obtain ⟨B,t,hfl,hBH,hcov,hea⟩:=fly
   refine wpAny_leaves_onW (base:=B) (env:=envOfC qual (al st) s.heap.objs.size f cdv) (outer:=outer) I'.ok.frames rfl hfl fun h'' hfl' sm=>?_
   have hb1:∀b o,s.heap.get? b=some o→b∉frs outer→∃ob,B.get? b=some ob:=fun b o eb hf=>by
    obtain ⟨o',e'⟩:=brs.old b o eb (by show b∉([]:List Addr);simp)
    refine hcov b o' e' fun hm=>?_
    rcases List.mem_cons.mp (I'.stkSub b hm) with z|z
    ·exact absurd (Heap.lt_size eb) (by rw[z];exact Nat.lt_irrefl _)
    ·exact hf z
   obtain ⟨un,hk'⟩:=ni (B:=B) I' rfl hfl.1 hfl'.1 sm hb1 hBH
   exact ⟨ea,C,H',rfl,I'.os,I'.bare,un,hk',⟨B,t,hfl',hBH,hb1,hea⟩,q C ρ' H' hfs hmg l rh'⟩
  | rse x σ h' =>
   rw[e] at q
   intro ea C ρ' H' σ' s' h0 args hfs hmg l rh' rs' I' made
   have hst:=I'.stack
   have hin:∀env∈(envOfC qual (al st) s.heap.objs.size f cdv::outer),∀b,env.frame=some b→b∈frs (envOfC qual (al st) s.heap.objs.size f cdv::outer):=fun env he b hb=>List.mem_filterMap.mpr ⟨env,he,hb⟩
   refine wpAny_leaves_madeW (base:=PySem.W.hideAll h0 (frs (envOfC qual (al st) s.heap.objs.size f cdv::outer))) (h:=h0) (env:=envOfC qual (al st) s.heap.objs.size f cdv) (outer:=outer) I'.ok.frames rfl (fun b o z=>PySem.W.of_hideAll _ z)
    (PySem.W.funFrames_hide (base:=base) hst hin) made fun h'' t hfl' _ _ sm=>?_
   have sub:∀b,b∈frs (envOfC qual (al st) s.heap.objs.size f cdv::outer)→b=s.heap.objs.size∨b∈frs outer:=fun b hm=>List.mem_cons.mp (I'.stkSub b hm)
   have hb1:∀b o,s.heap.get? b=some o→b∉frs outer→∃ob,(PySem.W.hideAll h0 (frs (envOfC qual (al st) s.heap.objs.size f cdv::outer))).get? b=some ob:=fun b o eb hf=>by
    obtain ⟨o',e'⟩:=I'.base.there b o eb (by show b∉([]:List Addr);simp)
    refine ⟨o',PySem.W.hideAll_get _ e' fun hm=>?_⟩
    rcases sub b hm with z|z
    ·exact absurd (Heap.lt_size eb) (by rw[z];exact Nat.lt_irrefl _)
    ·exact hf z
   have hBH:∀b o,H' b=some o→∃ob,(PySem.W.hideAll h0 (frs (envOfC qual (al st) s.heap.objs.size f cdv::outer))).get? b=some ob:=fun b o eb=>by
    have hlt:=I'.hok.lt eb
    obtain ⟨u,eu⟩:∃u,h0.get? b=some u:=(I'.hok b o eb).has
    refine ⟨u,PySem.W.hideAll_get _ eu fun hm=>?_⟩
    have:=I'.stkFree b hm
    rw[eb] at this;cases this
   have sm0:h0.UpToSlots h'':=(Heap.UpToSlots.of_keeps made.keeps).trans sm
   obtain ⟨un,hk'⟩:=ni (B:=PySem.W.hideAll h0 (frs (envOfC qual (al st) s.heap.objs.size f cdv::outer))) I' rfl (fun b o z=>PySem.W.of_hideAll _ z) hfl'.1 sm0 hb1 hBH
   have hea:H' ea=none:=by
    cases z:H' ea with
    | none=>rfl
    | some o =>
     obtain ⟨u,eu⟩:=(I'.hok ea o z).has
     rw[made.new] at eu;cases eu
   exact ⟨ea,C,H',rfl,I'.os,I'.bare,un,hk',⟨_,t,hfl',hBH,hb1,hea⟩,q C ρ' H' hfs hmg l rh'⟩
 ·rw[if_neg hp] at q;exact q.elim
noncomputable def itAny (v:PV) (h:MH):Out MIt:=match v with
 | .loc n=>(match h[n]? with
  | some (.lst xs)=>.ok ⟨xs,[(n,xs)]⟩ h
  | _=>.bad)
 | .frl xs=>.ok ⟨xs,[]⟩ h
 | .tup xs=>.ok ⟨xs,[]⟩ h
 | _=>.bad
noncomputable def mItS (m:Mx PV):Mx MIt:=fun σ h=>(m σ h).bind itAny
theorem bm {tg l:Expr} {m:Mx PV} (hl:ME X l m):MI X tg l (mItS m):=by
 intro pins s σ H R I ⟨ρ,σp,h,rs,rh,q⟩
 by_cases z:∃xs h1,m σp h=.ok (.tup xs) h1
 ·obtain ⟨xs,h1,e⟩:=z
  refine mi_tup (tg:=tg) hl pins s σ H R I ⟨ρ,σp,h,rs,rh,?_⟩
  unfold mItS at q
  unfold mItT
  rw[e] at q ⊢
  exact q
 ·refine mi_list (tg:=tg) hl pins s σ H R I ⟨ρ,σp,h,rs,rh,?_⟩
  unfold mItS at q
  unfold mItL
  cases e:m σp h with
  | ok v h1 =>
   rw[e] at q
   cases v with
   | tup xs=>exact absurd ⟨xs,h1,e⟩ z
   | _=>exact q
  | exc x h1=>rw[e] at q;exact q
  | bad=>rw[e] at q;exact q
theorem Inv.bigM {pins:List (Addr × Obj)} {σ:L2.St} {H:Hp} {s:Shared} (I:Inv X pins σ H s):sysModules<s.heap.objs.size:=by
 have h:mainGlobals<s.heap.objs.size:=(I.mod.glob.keeps I.bk).lt
 exact Nat.lt_trans (by decide) h
structure FnAt (P:Program) (w:World) (K:PySem.W.Frag) (mg:Str→Option Value) (base:Heap) (x:Str) (ps:List Str) (F:List PV→MH→Out PV) (k:Nat):Prop where
 ex:∃f fd,mg x=some (.ref f)∧PySem.W.keepIn K (.ref f)=true∧jH K fd ps []∧FnOk P w K mg base (CXm P w) k f fd ps (spM K mg F)∧∃oc od osl,K.lookup f=some ⟨oc,od,.func fd,osl⟩
theorem FnAt.mono {P:Program} {w:World} {K:PySem.W.Frag} {mg:Str→Option Value} {base:Heap} {x:Str} {ps:List Str} {F:List PV→MH→Out PV} {i j:Nat} (c:FnAt P w K mg base x ps F i) (h:i≤j):FnAt P w K mg base x ps F j :=
 let ⟨f,fd,a,b,d,e,z⟩:=c.ex;⟨f,fd,a,b,d,e.mono h,z⟩
theorem FnAt.cal {P:Program} {w:World} {K:PySem.W.Frag} {mg:Str→Option Value} {base:Heap} {x:Str} {ps:List Str} {F:List PV→MH→Out PV} {i:Nat} (c:FnAt P w K mg base x ps F i) {X:Cx} (e1:X.prog=P) (e2:X.w=w) (e3:X.K=K) (e4:X.mg=mg) (e5:X.base=base):Cal X x ps F i:=by
 subst e1;subst e2;subst e3;subst e4;subst e5
 obtain ⟨f,fd,a,b,d,e,_⟩:=c.ex
 exact ⟨f,fd,a,b,d,e⟩
structure DefAt (K:PySem.W.Frag) (x:Str) (st:Stmt):Prop where
 ex:∃f fd,PySem.W.nsIn K mainGlobals x=some (some (.ref f))∧Fun K x x st f fd
theorem defAt_mk {K:PySem.W.Frag} {x:Str} {st:Stmt} {f:Addr} {oc:Value} {od an:Option Addr} {sl:Array (Option Value)} {kV dc pm cd ct:Value}
  (a:PySem.W.nsIn K mainGlobals x=some (some (.ref f))) (l:K.lookup f=some ⟨oc,od,.func (PySem.W.fnOf x x (eJ st) (aJ st) (al st) .none kV dc pm an cd ct),sl⟩) (c:PySem.W.codeIn K cd x=true) (kp:PySem.W.keepIn K (.ref f)=true):DefAt K x st :=
 ⟨f,_,a,fun_mk l c kp⟩
def aT (x:Str) (st:Stmt) (ps:List Str):Prop:=∀(kV doc pm:Value) (an:Option Addr) (cdv ct:Value) (us:List Value),us.length=ps.length→bindArgs (PySem.W.fnOf x x (eJ st) (aJ st) (al st) .none kV doc pm an cdv ct) ⟨us,[]⟩=pure (ps.zip us)
theorem be {P:Program} {w:World} {K:PySem.W.Frag} {mg:Str→Option Value} {base:Heap} {x:Str} {st:Stmt} {ps:List Str} {m:Mst} (kin:K.In base) (ns:base.Ns mainGlobals mg) (D:DefAt K x st) (S:FnScope N ps (al st)) (B:aT x st ps)
  (hl:∀y∈N,(al st).names.lookup y=some .local∨(al st).names.lookup y=some .cell) (hgl:∀y∈G,(al st).names.lookup y=some .globalImplicit)
  (dbg:∀x∈N++G,(x == ("__debug__":Str))=false∧(x == ("__classdict__":Str))=false∧x≠"__name__")
  (hb:∀X:Cx,X.prog=P→X.w=w→X.K=K→X.mg=mg→X.base=base→X.env.scope=al st→Good X N N G k→DefCx X→MSs X (aJ st) m) :
  FnAt P w K mg base x ps (mDef N.length ps.length m) (k+1):=by
 obtain ⟨f,fd,a,Fu⟩:=D.ex
 have Fx:=Fu.ex
 obtain ⟨oc,od,kV,doc,pm,an,cdv,ct,osl,e1,e2,_⟩:=Fx
 exact ⟨f,fd,PySem.W.mg_of kin ns a,Fu.kp,Fu.binds B,fn_M Fu S hl hgl dbg hb,oc,od,osl,e2⟩
theorem head_M {P:Program} {w:World} {K:PySem.W.Frag} {mg:Str→Option Value} {h:Heap} {x y:Str} {st:Stmt} {F:List PV→MH→Out PV} {fa:Addr} (D:DefAt K x st) (B:aT x st [y]) (hmg:mg x=some (.ref fa)) (kin:K.In h) (ns:h.Ns mainGlobals mg)
  (H:∀base:Heap,K.In base→base.Ns mainGlobals mg→FnAt P w K mg base x [y] F k) :
  ∃fd:FuncData,(∀(s:Shared) (u:Value),BindsTo s fd ⟨[u],[]⟩ [(y,u)])∧∀base:Heap,K.In base→base.Ns mainGlobals mg→FnOk P w K mg base (CXm P w) k fa fd [y] (spM K mg F):=by
 obtain ⟨f,fd,a,Fu⟩:=D.ex
 have e:=hmg.symm.trans (PySem.W.mg_of kin ns a)
 cases e
 obtain ⟨oc,od,kV,doc,pm,an,cdv,ct,osl,e1,e2,e3⟩:=Fu.ex
 refine ⟨fd,fun s u=>.of_eq ?_,fun base kb nb=>?_⟩
 ·rw[e1];exact B kV doc pm an cdv ct [u] rfl
 ·obtain ⟨f',fd',g1,g2,g3,g4,oc',od',osl',g5⟩:=(H base kb nb).ex
  rw[hmg] at g1
  cases g1
  rw[e2] at g5
  cases g5
  exact g4
def spLaw (K:PySem.W.Frag):Sp:=fun vs H Q _=>∃(a:Addr) (ns:List Int),vs=[.ref a]∧SqF K H a (ns.map V.int)∧ns.length≤63∧∀H',Q (.bl true) H'
theorem walk_M {l:PySem.W.OpenLaw} {q:Program} {loose:List Str} {XP:(Str→Option Value)→Heap→Prop} {YP:World→Heap→Prop} {d:DefRec} {K:Params→PySem.W.Frag} {x:Str} {F:List PV→MH→Out PV} (hn:l.most=some 63) (hdf:d.params.defaults=[]) (hr:Room k callerA)
  (hY:∀(w:World) (h:Heap),YP w h→(K w.params).In h)
  (HF:∀(w:World) (mg:Str→Option Value) (fa:Addr) (h:Heap),(K w.params).In h→h.Ns mainGlobals mg→mg d.name=some (.ref fa) →
   ∃fd:FuncData,(∀(s:Shared) (u:Value),BindsTo s fd ⟨[u],[]⟩ [(x,u)])∧∀base:Heap,(K w.params).In base→base.Ns mainGlobals mg→FnOk l.prog w (K w.params) mg base (CXm l.prog w) k fa fd [x] (spM (K w.params) mg F))
  (ht:∀ns:List Int,ns.length≤63→∃h',F [.frl (ns.map .int)] []=.ok (.bl true) h') :
  PySem.W.WalkO q loose XP YP l.row.toRowW d [] (fun f vs=>PySem.call f vs):=by
 refine L2.walk_of (n:=63) (k:=k) (x:=x) (CX:=fun w=>CXm l.prog w) (sp:=fun w=>spLaw (K w.params)) hn (by decide) hdf hr hY (fun w mg fa h hK hns hmg=>?_) (fun w H a ns hl hO hS=>?_) fun w H s e s' z=>?_
 ·obtain ⟨fd,hb,hF⟩:=HF w mg fa h hK hns hmg
  refine ⟨fd,hb,fun base kb nb=>(hF base kb nb).imp fun vs H Q E z=>?_⟩
  obtain ⟨a,ns,rfl,sf,hl,hq⟩:=z
  obtain ⟨h',e⟩:=ht ns hl
  refine ⟨[],[.frl (ns.map .int)],[],.cons (.frl sf (RPs.ints ns)) .nil,⟨rfl,List.nodup_nil,fun n a o z _=>by simp at z⟩,?_⟩
  rw[e]
  intro ρ' H' v' _ _ r
  cases r
  exact hq H'
 ·have sf:SqF (K w.params) H a (ns.map V.int):=by
   rcases hS with (z|z)|z
   ·rcases hO a with y|⟨o,xs,y⟩
    ·rw[y] at z;cases z
    ·rw[y] at z;cases z
   ·exact .inl z
   ·exact .inr z
  exact ⟨a,ns,rfl,sf,hl,fun _=>rfl⟩
 ·obtain ⟨_,_,_,_,_,_,_,_,_,z⟩:=z
  exact z
end
section
variable {α:Type} {σ:PSt} {h:MH}
@[simp] theorem mC_ap {v:PV}:mC v σ h=.ok v h:=rfl
@[simp] theorem mVar_0 {v:PV} {r:PSt}:mVar 0 (some v::r) h=.ok v h:=rfl
@[simp] theorem mVar_s {i:Nat} {o:Option PV} {r:PSt}:mVar (i+1) (o::r) h=mVar i r h:=by simp[mVar]
@[simp] theorem mBin_ap {f:PV→PV→MH→Out PV} {a b:Mx PV}:mBin f a b σ h=(a σ h).bind fun x h1=>(b σ h1).bind fun y h2=>(f x y h2).ne:=rfl
@[simp] theorem mUn_ap {f:PV→MH→Out PV} {a:Mx PV}:mUn f a σ h=(a σ h).bind fun x h1=>(f x h1).ne:=rfl
@[simp] theorem mCB_ap {f:List PV→MH→Out PV} {a:Mx (List PV)}:mCB f a σ h=(a σ h).bind fun x h1=>(f x h1).ne:=rfl
@[simp] theorem mCall_ap {f:List PV→MH→Out PV} {a:Mx (List PV)}:av f a σ h=(a σ h).bind f:=rfl
@[simp] theorem mNil_ap:mNil σ h=.ok [] h:=rfl
@[simp] theorem mCons_ap {a:Mx PV} {r:Mx (List PV)}:ae a r σ h=(a σ h).bind fun x h1=>(r σ h1).bind fun xs h2=>.ok (x::xs) h2:=rfl
@[simp] theorem mLst_ap {a:Mx (List PV)}:mLst a σ h=(a σ h).bind newL:=rfl
@[simp] theorem mTup_ap {a:Mx (List PV)}:mTup a σ h=(a σ h).bind newT:=rfl
@[simp] theorem mB_ap {a:Mx PV}:mB a σ h=(a σ h).bind fun v h1=>match v with | .bl b=>.ok b h1 | _=>.bad:=rfl
@[simp] theorem mNot_ap {a:Mx Bool}:mNot a σ h=(a σ h).bind fun b h1=>.ok (!b) h1:=rfl
@[simp] theorem mAnd_ap {a b:Mx Bool}:mAnd a b σ h=(a σ h).bind fun x h1=>if x=true then b σ h1 else .ok false h1:=rfl
@[simp] theorem mOr_ap {a b:Mx Bool}:mOr a b σ h=(a σ h).bind fun x h1=>if x=true then .ok true h1 else b σ h1:=rfl
@[simp] theorem mAndV_ap {a b:Mx PV}:dS a b σ h=(a σ h).bind fun x h1=>match x with | .bl c=>if c=true then b σ h1 else .ok (.bl false) h1 | _=>.bad:=rfl
@[simp] theorem mSkip_ap:mSkip σ h=.nx σ h:=rfl
@[simp] theorem iy {a b:Mst}:mSeq a b σ h=(a σ h).then b:=rfl
@[simp] theorem aw {k:Mst}:(SOut.nx σ h).then k=k σ h:=rfl
@[simp] theorem ny {k:Mst} {v:PV}:(SOut.rt v h).then k=.rt v h:=rfl
@[simp] theorem then_bk {k:Mst}:(SOut.bk σ h).then k=.bk σ h:=rfl
@[simp] theorem then_ct {k:Mst}:(SOut.ct σ h).then k=.ct σ h:=rfl
@[simp] theorem rl {k:Mst} {x:MExc}:(SOut.rse x σ h).then k=.rse x σ h:=rfl
@[simp] theorem qH {k:Mst} {x:MExc}:(SOut.exc x σ h).then k=.exc x σ h:=rfl
@[simp] theorem qM {k:Mst}:SOut.bad.then k=.bad:=rfl
def Out.rt (o:Out PV) (σ:PSt):SOut:=match o with
 | .ok v h'=>.rt v h'
 | .exc x h'=>.exc x σ h'
 | .bad=>.bad
@[simp] theorem rt_ok {v:PV}:(Out.ok v h).rt σ=.rt v h:=rfl
@[simp] theorem rt_exc {x:MExc}:(Out.exc x h:Out PV).rt σ=.exc x σ h:=rfl
@[simp] theorem rt_bad:(Out.bad:Out PV).rt σ=.bad:=rfl
@[simp] theorem mRet_ap {m:Mx PV}:mRet m σ h=(m σ h).rt σ:=rfl
def Out.go {α:Type} (o:Out α) (σ:PSt) (k:α→Mst):SOut:=match o with
 | .ok v h'=>k v σ h'
 | .exc x h'=>.exc x σ h'
 | .bad=>.bad
@[simp] theorem aC {v:α} {k:α→Mst}:(Out.ok v h).go σ k=k v σ h:=rfl
@[simp] theorem go_exc {x:MExc} {k:α→Mst}:(Out.exc x h:Out α).go σ k=.exc x σ h:=rfl
@[simp] theorem go_bad {k:α→Mst}:(Out.bad:Out α).go σ k=.bad:=rfl
@[simp] theorem mEx_ap {m:Mx α} {k:α→Mst}:mEx m k σ h=(m σ h).go σ k:=rfl
@[simp] theorem mDrop_ap {m:Mx PV}:fX m σ h=(m σ h).go σ fun _=>mSkip:=rfl
@[simp] theorem mIf_ap {c:Mx Bool} {a b:Mst}:mIf c a b σ h=(c σ h).go σ fun x=>if x=true then a else b:=rfl
@[simp] theorem mSet_ap {i:Nat} {m:Mx PV}:mSet i m σ h=(m σ h).go σ fun v σ h=>.nx (σ.set i (some v)) h:=rfl
@[simp] theorem mPar_ap {i j:Nat} {m:Mx (List PV)}:mPar i j m σ h=(m σ h).go σ fun vs σ h=>match vs with | [v,w]=>.nx ((σ.set i (some v)).set j (some w)) h | _=>.bad:=rfl
@[simp] theorem mAsg_ap {m:Mx PV} {g:Mg}:mAsg m g σ h=(m σ h).go σ fun v σ h=>match g v σ h with | .nx σ2 h2=>.nx σ2 h2 | .exc x σ2 h2=>.exc x σ2 h2 | _=>.bad:=rfl
@[simp] theorem gNm_ap {i:Nat} {v:PV}:gNm i v σ h=.nx (σ.set i (some v)) h:=rfl
@[simp] theorem gNl_ap:gNl [] σ h=.nx σ h:=rfl
@[simp] theorem gCn_ap {a:Mg} {r:Mgs} {v:PV} {vs:List PV}:gCn a r (v::vs) σ h=(a v σ h).then (r vs):=rfl
@[simp] theorem gTp_ap {r:Mgs} {n:Nat} {xs:List PV}:gTp r n (.tup xs) σ h=if xs.length=n then r xs σ h else .bad:=rfl
@[simp] theorem mFor_ap {mi:Mx MIt} {g:Mg} {b:Mst}:mFor mi g b σ h=(mi σ h).go σ fun it=>mGo it g b it.xs:=rfl
@[simp] theorem mItS_ap {m:Mx PV}:mItS m σ h=(m σ h).bind itAny:=rfl
@[simp] theorem rq {m:Mx (List PV)}:cb m σ h=(m σ h).bind fun vs h1=>match vs with
 | [.int j]=>if -(2 ^ 62)≤j∧j<2 ^ 62 then .ok ⟨br 0 j.toNat,[]⟩ h1 else .bad
 | _=>.bad:=rfl
@[simp] theorem gSb_ap {mo mi:Mx PV} {v:PV}:gSb mo mi v σ h=(mo σ h).go σ fun o=>mEx mi fun i σ h=>match setL o i v h with
 | some h2=>.nx σ h2
 | none=>.bad:=rfl
def SOut.fin (o:SOut):Out PV:=match o with
 | .nx _ h'=>.ok .non h'
 | .rt v h'=>.ok v h'
 | .exc x _ h'=>.exc x h'
 | .rse x _ h'=>.exc x h'
 | _=>.bad
@[simp] theorem fin_exc {x:MExc}:(SOut.exc x σ h).fin=.exc x h:=rfl
@[simp] theorem fin_rse {x:MExc}:(SOut.rse x σ h).fin=.exc x h:=rfl
@[simp] theorem bv {v:PV}:(SOut.rt v h).fin=.ok v h:=rfl
@[simp] theorem fin_nx:(SOut.nx σ h).fin=.ok .non h:=rfl
theorem im {n np:Nat} {m:Mst} {ps:List PV} (e:ps.length=np):mDef n np m ps h=(m (bL n ps) h).fin:=by unfold mDef;rw[if_pos e];rfl
end
section
variable {h:MH} {i j:Int}
@[simp] theorem opAdd_ii:opAdd (.int i) (.int j) h=.ok (.int (i+j)) h:=rfl
@[simp] theorem opSub_ii:opSub (.int i) (.int j) h=.ok (.int (i - j)) h:=rfl
@[simp] theorem opNeg_i:opNeg (.int i) h=.ok (.int (-i)) h:=rfl
@[simp] theorem opLt_ii:opLt (.int i) (.int j) h=.ok (.bl (decide (i<j))) h:=rfl
@[simp] theorem opGt_ii:opGt (.int i) (.int j) h=.ok (.bl (decide (j<i))) h:=rfl
@[simp] theorem opGe_ii:opGe (.int i) (.int j) h=.ok (.bl (decide (j≤i))) h:=rfl
@[simp] theorem opEq_ii:opEq (.int i) (.int j) h=.ok (.bl (decide (i=j))) h:=by simp[opEq,rd,SeqAt.shaped,PyData.canLay0,PyData.depth,PyData.eqv,Bool.beq_eq_decide_eq]
@[simp] theorem opNe_ii:opNe (.int i) (.int j) h=.ok (.bl (!decide (i=j))) h:=by simp[opNe,rd,SeqAt.shaped,PyData.canLay0,PyData.depth,PyData.eqv,Bool.beq_eq_decide_eq]
@[simp] theorem opEq_bb {a b:Bool}:opEq (.bl a) (.bl b) h=.ok (.bl (a == b)) h:=by simp[opEq,rd,SeqAt.shaped,PyData.canLay0,PyData.depth,PyData.eqv]
@[simp] theorem opNe_bb {a b:Bool}:opNe (.bl a) (.bl b) h=.ok (.bl (!(a == b))) h:=by simp[opNe,rd,SeqAt.shaped,PyData.canLay0,PyData.depth,PyData.eqv]
theorem dG (hj:j≠0):opMod (.int i) (.int j) h=.ok (.int (i.fmod j)) h:=by simp[opMod,hj]
theorem nF (hj:j≠0) (hl:j.natAbs.log2<9000):opFd (.int i) (.int j) h=.ok (.int (i.fdiv j)) h:=by simp[opFd,hj,PyProof.noPylong_of_log2 hl]
theorem eN (hl:-(2 ^ 64)<i∧i<2 ^ 64):opMul (.int i) (.int j) h=.ok (.int (i * j)) h:=by simp[opMul,IntMulOk.of_left (intBits_le_64 hl.1 hl.2)]
theorem opMul_r (hl:-(2 ^ 64)<j∧j<2 ^ 64):opMul (.int i) (.int j) h=.ok (.int (i * j)) h:=by simp[opMul,IntMulOk.of_right (intBits_le_64 hl.1 hl.2)]
theorem k9 (hj:0≤j∧j≤1000000∧i.natAbs<2 ^ 64):opPow (.int i) (.int j) h=.ok (.int (i ^ j.toNat)) h:=by simp[opPow,CPow,hj]
@[simp] theorem fAbs_i:fAbs [.int i] h=.ok (.int (if i<0 then -i else i)) h:=rfl
@[simp] theorem fMin_ii:fMin [.int i,.int j] h=.ok (.int (if j<i then j else i)) h:=rfl
@[simp] theorem fInt_i:fInt [.int i] h=.ok (.int i) h:=rfl
@[simp] theorem fInt_b {b:Bool}:fInt [.bl b] h=.ok (.int (if b then 1 else 0)) h:=rfl
@[simp] theorem fLen_frl {xs:List PV}:fLen [.frl xs] h=.ok (.int xs.length) h:=rfl
@[simp] theorem fLen_tup {xs:List PV}:fLen [.tup xs] h=.ok (.int xs.length) h:=rfl
theorem nY {xs:List PV} (hl:xs.length≤1000):newL xs h=.ok (.loc h.length) (h++[.lst xs]):=by
 unfold newL;rw[if_pos (Nat.le_trans hl (by decide))]
theorem cP {n m:Nat} (hl:m<n):ixN n (m:Int)=some m:=by unfold ixN;rw[if_pos (by omega),if_pos (by omega)];simp
@[simp] theorem atI_0 {α:Type} {a:α} {r:List α}:atI (a::r) 0=some a:=cH (j:=0) rfl
@[simp] theorem atI_1 {α:Type} {a b:α} {r:List α}:atI (a::b::r) 1=some b:=cH (j:=1) rfl
@[simp] theorem atI_2 {α:Type} {a b c:α} {r:List α}:atI (a::b::c::r) 2=some c:=cH (j:=2) rfl
@[simp] theorem atI_3 {α:Type} {a b c d:α} {r:List α}:atI (a::b::c::d::r) 3=some d:=cH (j:=3) rfl
def Out.ofO (o:Option PV) (h:MH):Out PV:=match o with
 | some v=>.ok v h
 | none=>.bad
@[simp] theorem ofO_some {v:PV}:Out.ofO (some v) h=.ok v h:=rfl
@[simp] theorem opIx_tup {xs:List PV}:opIx (.tup xs) (.int i) h=Out.ofO (atI xs i) h:=rfl
@[simp] theorem opIx_frl {xs:List PV}:opIx (.frl xs) (.int i) h=Out.ofO (atI xs i) h:=rfl
theorem gh {n:Nat} {xs:List PV} (e:h[n]?=some (.lst xs)):opIx (.loc n) (.int i) h=Out.ofO (atI xs i) h:=by
 simp only[opIx,e];rfl
theorem i6 {n:Nat} {xs:List PV} {v:PV} (e:h[n]?=some (.lst xs)):setL (.loc n) (.int i) v h=(ixN xs.length i).map fun p=>h.set n (.lst (xs.set p v)):=by simp only[setL,e]
@[simp] theorem itAny_tup {xs:List PV}:itAny (.tup xs) h=.ok ⟨xs,[]⟩ h:=rfl
@[simp] theorem itAny_frl {xs:List PV}:itAny (.frl xs) h=.ok ⟨xs,[]⟩ h:=rfl
@[simp] theorem ok_none {xs:List PV}:(⟨xs,[]⟩:MIt).ok h↔True:=⟨fun _=>trivial,fun _ p hp=>nomatch hp⟩
@[simp] theorem ok_some {xs zs:List PV} {n:Nat}:(⟨xs,[(n,zs)]⟩:MIt).ok h↔h[n]?=some (.lst zs):=by
 constructor
 ·intro q;exact q (n,zs) (by simp)
 ·intro q p hp
  have e:p=(n,zs):=List.mem_singleton.mp hp
  subst e;exact q
end
def SOut.turn (o:SOut) (k:Mst):SOut:=match o with
 | .nx σ2 h2=>k σ2 h2
 | .ct σ2 h2=>k σ2 h2
 | .bk σ2 h2=>.nx σ2 h2
 | .rt v h2=>.rt v h2
 | .exc e σ2 h2=>.exc e σ2 h2
 | .rse e σ2 h2=>.rse e σ2 h2
 | .bad=>.bad
@[simp] theorem qw {σ:PSt} {h:MH} {x:MExc} {k:Mst}:(SOut.rse x σ h).turn k=.rse x σ h:=rfl
@[simp] theorem qv {σ:PSt} {h:MH} {x:MExc} {k:Mst}:(SOut.exc x σ h).turn k=.exc x σ h:=rfl
@[simp] theorem turn_nx {σ:PSt} {h:MH} {k:Mst}:(SOut.nx σ h).turn k=k σ h:=rfl
@[simp] theorem turn_ct {σ:PSt} {h:MH} {k:Mst}:(SOut.ct σ h).turn k=k σ h:=rfl
@[simp] theorem turn_bk {σ:PSt} {h:MH} {k:Mst}:(SOut.bk σ h).turn k=.nx σ h:=rfl
@[simp] theorem turn_rt {v:PV} {h:MH} {k:Mst}:(SOut.rt v h).turn k=.rt v h:=rfl
theorem mGo_nil {it:MIt} {g:Mg} {b:Mst} {σ:PSt} {h:MH} (e:it.ok h):mGo it g b [] σ h=.nx σ h:=by
 rw[mGo];dsimp only;rw[if_pos e]
theorem rY {it:MIt} {g:Mg} {b:Mst} {x:PV} {r:List PV} {σ σ1:PSt} {h h1:MH} (e:it.ok h) (eg:g x σ h=.nx σ1 h1):mGo it g b (x::r) σ h=(b σ1 h1).turn (mGo it g b r):=by
 rw[mGo];dsimp only;rw[if_pos e,eg];rfl
theorem lw {prog:Program} {w:World} {A:Around} {R:Result→Shared→Prop} {s:Shared} {elt target iter:Expr} {ifs:List Expr} {scope:Scope} {pos:Pos} {it acc:Value} {env:Env} (I:Nat→Shared→Prop)
  (turn:∀n s,I n s→wpAny (model prog w) A (pyNext it) (fun r s₁=>match r with
   | none=>R (.ok .next) s₁
   | some v=>wpAny (model prog w) A (letOwnedTupleGo target it v) (fun _ s₂'=>wpAny (model prog w) A (assign target env v) (fun _ s₂ =>
     wpAny (model prog w) A (forIn ifs true fun c r=>if r=true then do let ok ←isTrue c env (eval c env);pure (ForInStep.yield ok) else pure (ForInStep.yield r)) (fun ok s₃ =>
      if ok=true then wpAny (model prog w) A (eval elt env) (fun x s₄ =>
       wpAny (model prog w) A (call (.builtin "list.append") [acc,x]) (fun _ s₅=>∃m,m<n∧I m s₅) (fun _ _=>False) s₄) (fun _ _=>False) s₃
      else ∃m,m<n∧I m s₃) (fun _ _=>False) s₂) (fun _ _=>False) s₂') (fun _ _=>False) s₁) (fun _ _=>False) s)
  (n:Nat) (h:I n s) :
  codeAny (model prog w) A (.compLoop (.ListComp elt [⟨target,iter,ifs,0⟩] scope pos) 0 it acc env) R s:=by
 refine codeAny_loop rfl I (fun n s hI=>?_) n h
 show wpAny _ A ((compTurn (.ListComp elt [⟨target,iter,ifs,0⟩] scope pos) 0 it acc env).onRaise (fun x=>do noteFrame x env;theTreesLotGoes x)) _ _ s
 refine wpAny_noted ?_
 rw[compTurn_list]
 have no:∀(e:Value) (s':Shared),False→notedBy (model prog w) A env (fun e s'=>R (.error e) s') e s':=fun _ _ z=>z.elim
 refine wpAny_bind (wpAny_standAt (wpAny_bind (wpAny_mono (turn n s hI) (fun r s₁ h₁=>?_) fun _ _ h'=>h'.elim)))
 cases r with
 | none=>exact wpAny_pure h₁
 | some v =>
  refine wpAny_bind (wpAny_mono h₁ (fun _ s₂' h₂'=>?_) fun _ _ h'=>h'.elim)
  refine wpAny_bind (wpAny_mono h₂' (fun _ s₂ h₂=>wpAny_bind (wpAny_mono h₂ (fun ok s₃ h₃=>?_) fun _ _ h'=>h'.elim)) fun _ _ h'=>h'.elim)
  cases ok with
  | false=>exact wpAny_pure ⟨rfl,h₃⟩
  | true =>
   exact wpAny_bind (wpAny_bind (wpAny_mono h₃ (fun x s₄ h₄=>wpAny_bind (wpAny_mono h₄ (fun _ s₅ h₅=>wpAny_pure (wpAny_pure ⟨rfl,h₅⟩)) fun _ _ h'=>h'.elim)) fun _ _ h'=>h'.elim))
def clOf (env:Env):List (Str × NameKind)→List (Str × Addr)→List (Str × Addr)
 | [],cs=>cs
 | (n,k)::r,cs=>clOf env r (if (k == NameKind.free)=true then (n,(env.cells.lookup n).getD 0)::cs else cs)
theorem ky {scope:Scope} {env:Env} (h:∀y∈scope.names,y.2=.free→∃c,env.cells.lookup y.1=some c):closureFor scope env=pure (clOf env scope.names []):=by
 have key:∀(l:List (Str × NameKind)) (cs:List (Str × Addr)),(∀y∈l,y.2=.free→∃c,env.cells.lookup y.1=some c) →
   (forIn l cs fun (x:Str × NameKind) (r:List (Str × Addr))=>if (x.2 == NameKind.free)=true then (do let a ←cellOf env x.1;pure (ForInStep.yield ((x.1,a)::r)):Sem _) else pure (ForInStep.yield r))=(pure (clOf env l cs):Sem _):=by
  intro l
  induction l with
  | nil=>intro cs _;rfl
  | cons y l ih =>
   intro cs hh
   obtain ⟨n,k⟩:=y
   rw[List.forIn_cons]
   have hl:=fun z hz=>hh z (List.mem_cons_of_mem _ hz)
   by_cases hk:(k == NameKind.free)=true
   ·obtain ⟨c,hc⟩:=hh (n,k) List.mem_cons_self (by simpa using hk)
    dsimp only at hc ⊢
    rw[if_pos hk]
    have hco:cellOf env n=pure c:=by unfold cellOf;rw[hc]
    rw[hco]
    refine (ih ((n,c)::cs) hl).trans ?_
    simp only[clOf,hk,if_true,hc,Option.getD_some]
   ·dsimp only
    rw[if_neg hk]
    refine (ih cs hl).trans ?_
    simp[clOf,hk]
 unfold closureFor
 exact (congrArg (fun z=>z >>= fun r=>pure r) (key scope.names [] h)).trans rfl
theorem fH {env:Env} {x:Str}:∀(l:List (Str × NameKind)) (cs:List (Str × Addr)),(∀a,cs.lookup x=some a→a=(env.cells.lookup x).getD 0)→(∀a,(clOf env l cs).lookup x=some a→a=(env.cells.lookup x).getD 0)∧((∃k,(x,k)∈l∧k=.free)∨(∃a,cs.lookup x=some a)→∃a,(clOf env l cs).lookup x=some a)
 | [],cs,h=>⟨h,fun z=>by
  rcases z with ⟨k,z,_⟩|z
  ·cases z
  ·exact z⟩
 | (n,k)::r,cs,h=>by
  have h':∀a,(if (k == NameKind.free)=true then (n,(env.cells.lookup n).getD 0)::cs else cs).lookup x=some a→a=(env.cells.lookup x).getD 0:=fun a ha=>by
   split at ha
   ·rw[List.lookup_cons] at ha
    split at ha
    ·rename_i e
     have:x=n:=by simpa using e
     subst this
     exact (Option.some.inj ha).symm
    ·exact h a ha
   ·exact h a ha
  obtain ⟨i1,i2⟩:=fH r _ h'
  refine ⟨i1,fun z=>i2 ?_⟩
  rcases z with ⟨k',z,hk⟩|⟨a,z⟩
  ·rcases List.mem_cons.mp z with e|e
   ·cases e
    right
    subst hk
    exact ⟨(env.cells.lookup x).getD 0,by simp⟩
   ·exact .inl ⟨k',e,hk⟩
  ·right
   split
   ·rw[List.lookup_cons]
    split
    ·exact ⟨_,rfl⟩
    ·exact ⟨a,z⟩
   ·exact ⟨a,z⟩
theorem bS {env:Env} (hk:env.scope.kind=.function):∀{names:List (Str × NameKind)} {x:Str} {k:NameKind},names.lookup x=some k →
  (names.map fun (n,k)=>if (k == NameKind.free && env.scope.kind == .function && env.kindOf n == some .cell) then (n,NameKind.cell) else (n,k)).lookup x=some (if k=.free∧env.kindOf x=some .cell then .cell else k)
 | [],_,_,h=>by simp at h
 | (n,k')::r,x,k,h=>by
  have ih:=@bS env hk r x k
  show List.lookup x ((if (k' == NameKind.free && env.scope.kind == .function && env.kindOf n == some .cell)=true then (n,NameKind.cell) else (n,k'))::_)=_
  cases hx:x == n with
  | true =>
   have e:x=n:=by simpa using hx
   subst e
   simp only[List.lookup_cons,hx] at h
   cases h
   by_cases z:k'=.free∧env.kindOf x=some .cell
   ·rw[if_pos (by simp[z.1,z.2,hk]),if_pos z];simp[List.lookup_cons]
   ·rw[if_neg (by simp[hk];intro q1 q2;exact z ⟨q1,q2⟩),if_neg z];simp[List.lookup_cons]
  | false =>
   simp only[List.lookup_cons,hx] at h
   by_cases hc:(k' == NameKind.free && env.scope.kind == .function && env.kindOf n == some .cell)=true
   ·rw[if_pos hc];simp only[List.lookup_cons,hx];exact ih h
   ·rw[if_neg hc];simp only[List.lookup_cons,hx];exact ih h
def cF (X:Cx) (scope:Scope) (cl:List (Str × Addr)) (s₃:Shared) (H₃:Hp) (fp:List Addr) (N':List Str):Cx :=
 { X with N:=N',s₀:=s₃,H₀:=H₃,env:=compEnvC scope cl s₃.heap.objs.size X.env,outer:=X.stack,ex:=fp,fn:=fun _=>false,pn:=[],xe:=fun _ _=>False}
structure CompOk (X:Cx) (N:List Str) (scope:Scope) (vars frees:List Str) (fm:List Nat):Prop where
 kind:scope.kind=.function
 cell:∀y∈scope.names,y.2≠.cell
 names:∀y∈scope.names,y.2=.local→scope.names.lookup y.1=some .local
 hv:∀x∈vars,scope.names.lookup x=some .local
 hf:∀x∈frees,scope.names.lookup x=some .free
 all:∀y∈scope.names,y.2=.free→y.1∈frees
 fm:fm.map (fun i=>N[i]?)=frees.map some
 cl:∀x∈frees,X.env.kindOf x=some .cell
def cSt (nv:Nat) (fm:List Nat) (σ:PSt):PSt:=List.replicate nv none++fm.map fun i=>(σ[i]?).getD none
noncomputable def cGo (it:MIt) (n:Nat) (gt:Mg) (mt:Mx Bool) (me:Mx PV):List PV→PSt→MH→Out Unit
 | [],_,h=>if it.ok h then .ok () h else .bad
 | x::r,σ,h=>if it.ok h then (match gt x σ h with
  | .nx σ1 h1=>(mt σ1 h1).ne.bind fun b h2=>if b=true then (me σ1 h2).ne.bind fun v h3=>(match h3[n]? with
    | some (.lst ys)=>if ys.length<sizeLine then cGo it n gt mt me r σ1 (h3.set n (.lst (ys++[v]))) else .bad
    | _=>.bad) else cGo it n gt mt me r σ1 h2
  | _=>.bad) else .bad
noncomputable def aY (nv:Nat) (fm:List Nat) (mi:Mx MIt) (gt:Mg) (mt:Mx Bool) (me:Mx PV):Mx PV:=fun σ h =>
 (mi σ h).bind fun it h1=>(cGo it h1.length gt mt me it.xs (cSt nv fm σ) (h1++[.lst []])).bind fun _ h3=>.ok (.loc h1.length) h3
def MTs (X:Cx) (ifs:List Expr) (m:Mx Bool):Prop :=
 ∀(pins:List (Addr × Obj)) (s:Shared) (σ:L2.St) (H:Hp) (Q:Bool→Hp→Prop),Inv X pins σ H s→tM X REq m σ H Q →
  wpAny (model X.prog X.w) X.A (forIn ifs true fun c r=>if r=true then do let ok ←isTrue c X.env (eval c X.env);pure (ForInStep.yield ok) else pure (ForInStep.yield r)) (TP X pins σ Q) X.xe s
def mTrue:Mx Bool:=fun _ h=>.ok true h
theorem bg {X:Cx}:MTs X [] mTrue:=fun pins s σ H Q I ⟨ρ,σp,h,rs,rh,q⟩=>wpAny_tests_nil ⟨H,I,q ρ H true (Le.refl _ _) rh rfl⟩
theorem dE {X:Cx} {c:Expr} {m:Mx Bool} (h:MT X c m):MTs X [c] m:=fun pins s σ H Q I q=>wpAny_tests_one (h pins s σ H Q I q)
section
variable {X:Cx} {N W G:List Str} {k:Nat}
theorem kn (g:Good X N W G k) {tg iter elt:Expr} {ifs:List Expr} {scope:Scope} {pos:Pos} {vars frees G':List Str} {fm:List Nat} {mi:Mx MIt} {gt:Mg} {mt:Mx Bool} {me:Mx PV} (C:CompOk X N scope vars frees fm)
  (nd:(vars++frees).Nodup) (hgl:∀x∈G',scope.names.lookup x=some .globalImplicit) (dbg:∀x∈(vars++frees)++G',(x == ("__debug__":Str))=false∧(x == ("__classdict__":Str))=false∧x≠"__name__")
  (hi:MI X tg iter mi)
  (hY:∀Y:Cx,Y.prog=X.prog→Y.w=X.w→Y.K=X.K→Y.mg=X.mg→Y.base=X.base→Y.env.scope=relabel scope X.env→Good Y (vars++frees) vars G' k→MG Y tg gt∧MTs Y ifs mt∧ME Y elt me)
  (hs:∀x,foldedSetIterable iter X.env x=pure x) {use:Option (Value→Sem Unit)} {Qv:Value→Shared→Prop} {pp:Pos} {pins:List (Addr × Obj)} {s:Shared} {σ:L2.St} {H:Hp} {Q:VK} (I:Inv X pins σ H s) (tm:tM X (RV' X) (aY vars.length fm mi gt mt me) σ H Q)
  (fin:∀(acc C:Addr) (H6:Hp) (s7:Shared) (m7:Str→Option Value),Inv X pins σ H6 s7→H6 C=none→s7.heap.Ns C m7→C≠X.env.locals→X.s₀.heap.objs.size≤C→C∉X.fs→(∀x c,X.env.cells.lookup x=some c→c≠C)→(∀p∈X.pn++pins,p.1≠C)→Q (.ref acc) H6 →
   compPost (model X.prog X.w) X.A X.xe use Qv (.ref acc) C (.ok .next) s7) :
  wpAny (model X.prog X.w) X.A (comprehension (.ListComp elt [⟨tg,iter,ifs,0⟩] scope pos) scope X.env pp (newList []) false (eval iter X.env) use) Qv X.xe s:=by
 obtain ⟨ρ,σp,h,rs,rh,q⟩:=tm
 have hfree:∀y∈scope.names,y.2=.free→∃c,X.env.cells.lookup y.1=some c:=fun y hy e=>I.ok.has y.1 (.inl (C.cl _ (C.all y hy e)))
 refine wpAny_comprehension_free (use:=use) rfl hs (ky hfree) C.kind C.names ?_
 generalize hcl:clOf X.env scope.names []=cl
 have clk:∀x a,cl.lookup x=some a→X.env.cells.lookup x=some a∨((X.env.cells.lookup x)=none∧a=0):=fun x a e=>by
  rw[←hcl] at e
  have:=(fH (env:=X.env) (x:=x) scope.names [] (fun a z=>by simp at z)).1 a e
  cases z:X.env.cells.lookup x with
  | none=>right;rw[z] at this;exact ⟨rfl,this⟩
  | some c=>left;rw[z] at this;rw[this];rfl
 have clf:∀x∈frees,∃c,cl.lookup x=some c∧X.env.cells.lookup x=some c:=fun x hx=>by
  obtain ⟨c,hc⟩:=I.ok.has x (.inl (C.cl x hx))
  have hm:(∃kk,(x,kk)∈scope.names∧kk=.free):=⟨.free,PySem.mem_of_lookup (C.hf x hx),rfl⟩
  obtain ⟨a,ha⟩:=(fH (env:=X.env) (x:=x) scope.names [] (fun a z=>by simp at z)).2 (.inl hm)
  rw[hcl] at ha
  rcases clk x a ha with z|⟨z,_⟩
  ·rw[hc] at z;cases z;exact ⟨c,ha,hc⟩
  ·rw[hc] at z;cases z
 have clin:∀x a,cl.lookup x=some a→X.env.cells.lookup x=some a:=fun x a e=>by
  rcases clk x a e with z|⟨z,_⟩
  ·exact z
  ·exfalso
   have only:∀(l:List (Str × NameKind)) (cs:List (Str × Addr)) (x:Str) (a:Addr),(clOf X.env l cs).lookup x=some a→(x,NameKind.free)∈l∨cs.lookup x=some a:=by
    intro l
    induction l with
    | nil=>intro cs x a e;exact .inr e
    | cons y l ih =>
     intro cs x a e
     obtain ⟨n,kk⟩:=y
     rcases ih _ x a e with z|z
     ·exact .inl (List.mem_cons_of_mem _ z)
     ·split at z
      ·rename_i hk
       have hk':kk=NameKind.free:=by simpa using hk
       rw[List.lookup_cons] at z
       split at z
       ·rename_i e'
        have:x=n:=by simpa using e'
        subst this;subst hk'
        exact .inl List.mem_cons_self
       ·exact .inr z
      ·exact .inr z
   rw[←hcl] at e
   rcases only _ _ x a e with z'|z'
   ·obtain ⟨c,hc⟩:=hfree _ z' rfl
    rw[z] at hc;cases hc
   ·simp at z'
 have start:=hi pins s σ H (fun J H1=>∃ρ1 it h1,Le ρ H ρ1 H1∧RH X.K X.mg ρ1 H1 h1∧JRel X ρ1 H1 it J∧Ful X (RV' X) σp ρ1 H1 ((cGo it h1.length gt mt me it.xs (cSt vars.length fm σp) (h1++[.lst []])).bind fun _ h3=>.ok (.loc h1.length) h3) Q) I
  ⟨ρ,σp,h,rs,rh,Ful.bind q fun ρ1 H1 it J h1 _ l1 rh1 jr q1=>⟨ρ1,it,h1,l1,rh1,jr,q1⟩⟩
 refine wpAny_mono start (fun x s₁ h₁=>wpAny_mono h₁ (fun itv s₂ h₂=>?_) fun _ _ e=>e) fun _ _ e=>e
 obtain ⟨ita,fp,tn,J,H2,rfl,I2,T,st2,f2,ρ1,it,h1,l1,rh1,jr,q1⟩:=h₂
 refine wpAny_newObj_type ?_
 have hf2:H2 s₂.heap.objs.size=none:=I2.hok.fresh (Nat.le_refl _)
 have I3:=I2.lnew (ys:=[]) (its:=[]) (t':=s₂.toks) .nil (Nat.zero_le _)
 obtain ⟨rh3,l3⟩:=rh1.new hf2 (o:=.lst []) (ho:=.lst []) ⟨[],rfl,.nil⟩
 generalize hs3:({ s₂ with heap:=s₂.heap.push { cls:=.type "list",data:=.seq ([]:List Value).toArray},toks:=s₂.toks}:Shared)=s₃ at I3
 generalize hH3:upd H2 s₂.heap.objs.size (.lst [])=H₃ at I3 rh3 l3
 have hacc:H₃ s₂.heap.objs.size=some (.lst []):=by rw[←hH3];exact cc
 have es3:s₃.heap=s₂.heap.push { cls:=.type "list",data:=.seq ([]:List Value).toArray}:=by rw[←hs3]
 have st3:tn 0 s₃.heap:=T.keep _ _ _ st2 fun b _ o e=>by rw[es3];exact Heap.get?_push_of_some _ e
 have fp3:∀b∈fp,FpOk X pins H₃ b:=fun b hb=>by
  obtain ⟨a0,a1⟩:=f2 b hb
  refine ⟨?_,a1⟩
  obtain ⟨o,eo,_⟩:=T.obj _ _ st2 b hb
  rw[←hH3,aV (Nat.ne_of_lt (Heap.lt_size eo))];exact a0
 have goal3:wpAny (model X.prog X.w) X.A (newFunctionEnv scope X.env.globals cl [] X.env.qual none .none (some X.env)) (fun cenv s₄ =>
    codeAny (model X.prog X.w) X.A (.compStart (.ListComp elt [⟨tg,iter,ifs,0⟩] scope pos) 0 (.ref ita) (.ref s₂.heap.objs.size) { cenv with scope:=relabel scope X.env}) (compPost (model X.prog X.w) X.A X.xe use Qv (.ref s₂.heap.objs.size) cenv.locals) s₄) X.xe s₃:=by
  refine wpAny_newFunctionEnv C.cell (by intro y hy;simp at hy) (fun h' hns hsb=>?_) C.kind
  dsimp only[newEnv]
  have keep4:∀b o,s₃.heap.get? b=some o→h'.get? b=some o:=fun b o e=>hsb.extBut b o (Nat.ne_of_lt (Heap.lt_size e)) (Heap.get?_push_of_some _ e)
  have ok:(cF X scope cl s₃ H₃ fp (vars++frees)).Ok:=by
   refine ⟨I3.ok.mod,C.kind,I3.ok.glob,I3.ok.blt,Nat.le_refl _,fun x y c h1 h2=>I3.ok.inj x y c (clin x c h1) (clin y c h2),fun x hx=>?_,fun x c hx=>absurd hx Bool.false_ne_true,I3.ok.hd,I3.ok.frames,.inl rfl,
    fun b hb=>⟨?_,fun x c e z=>?_⟩,I3.bs,Nat.le_trans I3.ok.bsz I3.sz,fun b o e hb=>?_,fun b hb z=>?_,I3.stack,I3.stkFree⟩
   ·
    have hx':(relabel scope X.env).names.lookup x=some .cell∨(relabel scope X.env).names.lookup x=some .free:=hx
    cases e:scope.names.lookup x with
    | none =>
     exfalso
     have nn:∀(l:List (Str × NameKind)),l.lookup x=none→(l.map fun (n,k)=>if (k == NameKind.free && X.env.scope.kind == .function && X.env.kindOf n == some .cell) then (n,NameKind.cell) else (n,k)).lookup x=none:=by
      intro l
      induction l with
      | nil=>intro _;rfl
      | cons y l ih =>
       intro hl
       obtain ⟨n,kk⟩:=y
       rw[List.lookup_cons] at hl
       split at hl
       ·cases hl
       ·rename_i hx2
        rw[List.map_cons]
        dsimp only
        split <;> (rw[List.lookup_cons];simp only[hx2];exact ih hl)
     have e2:=nn scope.names e
     rcases hx' with z|z
     ·rw[show (relabel scope X.env).names.lookup x=none from e2] at z;cases z
     ·rw[show (relabel scope X.env).names.lookup x=none from e2] at z;cases z
    | some kk =>
     have e2:=bS (env:=X.env) I3.ok.kind e
     have hk:kk=.free:=by
      rcases hx' with z|z
      ·rw[show (relabel scope X.env).names.lookup x=_ from e2] at z
       have z':=Option.some.inj z
       by_cases zz:kk=.free∧X.env.kindOf x=some .cell
       ·exact zz.1
       ·rw[if_neg zz] at z'
        exact absurd z' (C.cell _ (PySem.mem_of_lookup e))
      ·rw[show (relabel scope X.env).names.lookup x=_ from e2] at z
       have z':=Option.some.inj z
       by_cases zz:kk=.free∧X.env.kindOf x=some .cell
       ·exact zz.1
       ·rw[if_neg zz] at z';exact z'
     subst hk
     obtain ⟨c,h1,_⟩:=clf x (C.all _ (PySem.mem_of_lookup e) rfl)
     exact ⟨c,h1⟩
   ·obtain ⟨o,eo,_⟩:=T.obj _ _ st3 b hb
    exact Nat.ne_of_lt (Heap.lt_size eo)
   ·exact (fp3 b hb).2.2.2.2.1 x c (clin x c e) z
   ·obtain ⟨_,_,_,h4,_⟩:=fp3 b hb
    rcases h4 with h4|h4
    ·exact I3.ok.noex b o e h4
    ·exact absurd (Nat.lt_of_lt_of_le (Heap.lt_size e) (Nat.le_trans I3.ok.bsz h4)) (Nat.lt_irrefl _)
   ·obtain ⟨_,h2,h3,_⟩:=fp3 b hb
    rcases List.mem_cons.mp (I3.stkSub b z) with e|e
    ·exact h2 e
    ·exact h3 e
  obtain ⟨mX,nsX,lX⟩:=I3.loc
  have l13:Le ρ H (ρ1++[s₂.heap.objs.size]) H₃:=l1.trans l3
  let σY:L2.St:=List.replicate vars.length none++fm.map fun i=>(σ[i]?).getD none
  have fml:fm.length=frees.length:=by have:=congrArg List.length C.fm;simpa using this
  have invY:Inv (cF X scope cl s₃ H₃ fp (vars++frees)) [] σY H₃ { s₃ with heap:=h',toks:=s₃.toks}:=by
   refine ⟨ok,rfl,I3.bare,Un.kept keep4,⟨_,hns,fun i x v hN hv hvis=>?_⟩,fun x c e=>?_,?_,fun x c e=>I3.freeC x c (clin x c e),fun p hp=>absurd (show p∈([]:List (Addr × Obj)) from hp) (by simp),I3.hok.kept keep4,?_⟩
   ·have hN':(vars++frees)[i]?=some x:=hN
    have hiv:vars.length≤i:=by
     by_cases z:vars.length≤i
     ·exact z
     ·exfalso
      have hv':σY[i]?=some (some v):=hv
      rw[List.getElem?_append_left (by simp;omega),List.getElem?_replicate] at hv'
      split at hv' <;> cases hv'
    have hv':σY[i]?=some (some v):=hv
    rw[List.getElem?_append_right (by simpa using hiv),List.length_replicate,List.getElem?_map] at hv'
    rw[List.getElem?_append_right hiv] at hN'
    cases ej:fm[i - vars.length]? with
    | none=>rw[ej] at hv';cases hv'
    | some j =>
     rw[ej] at hv'
     have ef:=congrArg (fun l=>l[i - vars.length]?) C.fm
     simp only[List.getElem?_map,ej,hN',Option.map_some] at ef
     have ef':N[j]?=some x:=by simpa using ef
     have ev:σ[j]?=some (some v):=by
      have:(σ[j]?).getD none=some v:=by simpa using hv'
      cases z:σ[j]? with
      | none=>rw[z] at this;cases this
      | some o=>rw[z] at this;simp at this;rw[this]
     have hx:x∈frees:=List.mem_of_getElem? hN'
     have vis:Vis X.env.scope x:=.inr (.inl (C.cl x hx))
     obtain ⟨u,ru,look⟩:=lX j x v (by rw[g.hN];exact ef') ev vis
     refine ⟨u,ru,.inr ⟨?_,?_⟩⟩
     ·left
      show (relabel scope X.env).names.lookup x=some .cell
      have:=bS (env:=X.env) I3.ok.kind (C.hf x hx)
      rw[if_pos ⟨rfl,C.cl x hx⟩] at this
      exact this
     ·rcases look with ⟨hk,_⟩|⟨_,c,hc,hcell⟩
      ·rw[C.cl x hx] at hk;cases hk
      ·obtain ⟨c',h1,h2⟩:=clf x hx
       rw[hc] at h2;cases h2
       obtain ⟨o,eo,ed⟩:=hcell
       exact ⟨c,h1,o,keep4 _ _ eo,ed⟩
   ·obtain ⟨v,o,eo,ed⟩:=I3.cell x c (clin x c e)
    exact ⟨v,o,keep4 _ _ eo,ed⟩
   ·exact I3.hok.fresh (Nat.le_refl _)
   ·show σY.length=(vars++frees).length
    simp[σY,fml]
  have gY:Good (cF X scope cl s₃ H₃ fp (vars++frees)) (vars++frees) vars G' k:=by
   refine ⟨rfl,nd,fun x hx=>?_,fun x hx=>.inr ?_,fun x hx=>?_,dbg,g.calm,g.room,PassesOwn.never⟩
   ·rcases List.mem_append.mp hx with z|z
    ·left
     have:=bS (env:=X.env) I3.ok.kind (C.hv x z)
     rw[if_neg (fun q=>nomatch q.1)] at this
     exact this
    ·right
     have:=bS (env:=X.env) I3.ok.kind (C.hf x z)
     rw[if_pos ⟨rfl,C.cl x z⟩] at this
     exact this
   ·have:=bS (env:=X.env) I3.ok.kind (C.hv x hx)
    rw[if_neg (fun q=>nomatch q.1)] at this
    exact this
   ·have:=bS (env:=X.env) I3.ok.kind (hgl x hx)
    rw[if_neg (fun q=>nomatch q.1)] at this
    exact this
  obtain ⟨hg,ht,he⟩:=hY (cF X scope cl s₃ H₃ fp (vars++frees)) rfl rfl rfl rfl rfl rfl gY
  have rsY:RS X.K (ρ1++[s₂.heap.objs.size]) H₃ (cSt vars.length fm σp) σY:=by
   refine ⟨by simp[σY,cSt],fun i v e=>?_⟩
   unfold cSt at e
   by_cases z:vars.length≤i
   ·rw[List.getElem?_append_right (by simpa using z),List.length_replicate,List.getElem?_map] at e
    cases ej:fm[i - vars.length]? with
    | none=>rw[ej] at e;cases e
    | some j =>
     rw[ej] at e
     have ev:σp[j]?=some (some v):=by
      have:(σp[j]?).getD none=some v:=by simpa using e
      cases z:σp[j]? with
      | none=>rw[z] at this;cases this
      | some o=>rw[z] at this;simp at this;rw[this]
     obtain ⟨v',e',rv⟩:=rs.2 j v ev
     refine ⟨v',?_,rv.le l13⟩
     show σY[i]?=_
     rw[List.getElem?_append_right (by simpa using z),List.length_replicate,List.getElem?_map,ej]
     simp[e']
   ·rw[List.getElem?_append_left (by simp;omega),List.getElem?_replicate] at e
    split at e <;> cases e
  have q3:Ful X (RV' X) σp (ρ1++[s₂.heap.objs.size]) H₃ ((cGo it h1.length gt mt me it.xs (cSt vars.length fm σp) (h1++[.lst []])).bind fun _ h3=>.ok (.loc h1.length) h3) Q:=Ful.le l3 q1
  have hrho:(ρ1++[s₂.heap.objs.size])[h1.length]?=some s₂.heap.objs.size:=by rw[←rh1.len];simp
  have loop:∀s₅:Shared,s₅={ s₃ with heap:=h',toks:=s₃.toks}→codeAny (model X.prog X.w) X.A (.compLoop (.ListComp elt [⟨tg,iter,ifs,0⟩] scope pos) 0 (.ref ita) (.ref s₂.heap.objs.size) (compEnvC scope cl s₃.heap.objs.size X.env))
    (compPost (model X.prog X.w) X.A X.xe use Qv (.ref s₂.heap.objs.size) s₃.heap.objs.size) s₅:=by
   rintro s₅ rfl
   refine lw (fun n s6=>∃i σ6 H6 ρ6 σp6 h6,n=it.xs.length - i∧i≤it.xs.length∧Inv (cF X scope cl s₃ H₃ fp (vars++frees)) [] σ6 H6 s6∧tn i s6.heap∧(∀b∈fp,H6 b=none)∧Le (ρ1++[s₂.heap.objs.size]) H₃ ρ6 H6∧RS X.K ρ6 H6 σp6 σ6∧RH X.K X.mg ρ6 H6 h6 ∧
    Ful X (RV' X) σp ρ6 H6 ((cGo it h1.length gt mt me (it.xs.drop i) σp6 h6).bind fun _ h3=>.ok (.loc h1.length) h3) Q) ?_ it.xs.length
    ⟨0,σY,H₃,_,_,_,rfl,Nat.zero_le _,invY,T.keep _ _ _ st3 (fun b _ o e=>keep4 b o e),fun b hb=>(fp3 b hb).1,Le.refl _ _,rsY,rh3,by simpa using q3⟩
   rintro n s6 ⟨i,σ6,H6,ρ6,σp6,h6,rfl,hi6,I6,st6,fr6,l6,rs6,rh6,q6⟩
   have stat:∀{H':Hp},(∀b∈fp,H' b=none)→∀b∈fp,FpOk (cF X scope cl s₃ H₃ fp (vars++frees)) [] H' b:=fun {H'} hn b hb =>
    ⟨hn b hb,(ok.exf b hb).1,ok.exfs b hb,.inl hb,(ok.exf b hb).2,fun p hp=>absurd (show p∈([]:List (Addr × Obj)) from hp) (by simp)⟩
   by_cases hlt:i<it.xs.length
   ·have ed:it.xs.drop i=it.xs[i]::it.xs.drop (i+1):=List.drop_eq_getElem_cons hlt
    rw[ed] at q6
    simp only[cGo] at q6
    by_cases hok:it.ok h6
    ·rw[if_pos hok] at q6
     obtain ⟨j1,_⟩:=jr ρ6 H6 h6 i (l3.trans l6) rh6 hok
     obtain ⟨go,yl⟩:=j1 hlt
     refine thn (T.item (cF X scope cl s₃ H₃ fp (vars++frees)) rfl rfl rfl g.calm i [] s6 σ6 H6 (fun _ _=>False) I6 (stat fr6) st6 go) fun r s7 ⟨u,hr,h7⟩=>?_
     subst hr
     refine thn h7 fun _ s8 ⟨x8,H8,I8,r8,y8,st8,fr8⟩=>?_
     obtain ⟨ρ8,x,l8,rh8,ex,rx⟩:=yl x8 H8 y8
     have ex':x=it.xs[i]:=by rw[List.getElem?_eq_getElem hlt] at ex;exact (Option.some.inj ex).symm
     subst ex'
     have I8p:=I8.pinned (stat fr8) (T.obj _ _ st8)
     have q8:=Ful.le l8 q6
     have back:∀{σ9:L2.St} {H9:Hp} {s9:Shared},Inv (cF X scope cl s₃ H₃ fp (vars++frees)) ([]++gZ fp s8.heap) σ9 H9 s9→Inv (cF X scope cl s₃ H₃ fp (vars++frees)) [] σ9 H9 s9∧tn (i+1) s9.heap∧∀b∈fp,H9 b=none:=fun {σ9 H9 s9} I9=>by
      refine ⟨I9.unpinned,T.keep _ _ _ st8 fun b hb o e=>(I9.pin (b,o) (List.mem_append_right _ (List.mem_append_right _ (ec hb e)))).1,fun b hb=>?_⟩
      obtain ⟨o,e,d⟩:=T.obj _ _ st8 b hb
      exact (I9.pin (b,o) (List.mem_append_right _ (List.mem_append_right _ (ec hb e)))).2.1
     cases eg:gt it.xs[i] σp6 h6 with
     | nx σp9 h9 =>
      rw[eg] at q8
      dsimp only at q8
      refine thn (hg _ s8 σ6 H8 x8 u (fun σ' H'=>∃ρ',Le ρ8 H8 ρ' H'∧RH X.K X.mg ρ' H' h9∧RS X.K ρ' H' σp9 σ') I8p r8 ⟨ρ8,σp6,h6,_,rs6.le l8,rh8,rx,by
       show FulG _ _ _ (gt it.xs[i] σp6 h6) _
       rw[eg];exact fun ρ' H' σ' l r s=>⟨ρ',l,r,s⟩⟩) fun _ s9 ⟨σ9,H9,I9,ρ9,l9,rh9,rs9⟩=>?_
      have q9:=Ful.le l9 q8
      cases em:mt σp9 h9 with
      | ok b h10 =>
       rw[em,Out.ne_ok] at q9
       rw[Out.bind_ok] at q9
       refine thn (ht _ s9 σ9 H9 (fun b' H'=>b'=b∧∃ρ',Le ρ9 H9 ρ' H'∧RH X.K X.mg ρ' H' h10) I9 ⟨ρ9,σp9,h9,rs9,rh9,by
        show Ful _ _ _ _ _ (mt σp9 h9) _
        rw[em];exact fun ρ' H' v' l r e=>⟨e.symm,ρ',l,r⟩⟩) fun b' s10 ⟨H10,I10,eb,ρ10,l10,rh10⟩=>?_
       subst eb
       have q10:=Ful.le l10 q9
       cases b' with
       | false =>
        rw[if_neg Bool.false_ne_true] at q10 ⊢
        obtain ⟨I10',st10,fr10⟩:=back I10
        exact ⟨_,by omega,i+1,σ9,H10,ρ10,σp9,h10,rfl,hlt,I10',st10,fr10,l6.trans (l8.trans (l9.trans l10)),rs9.le l10,rh10,q10⟩
       | true =>
        rw[if_pos rfl] at q10 ⊢
        cases ee:me σp9 h10 with
        | ok v h11 =>
         rw[ee,Out.ne_ok] at q10
         rw[Out.bind_ok] at q10
         refine thn (he _ s10 σ9 H10 (fun v' H'=>∃ρ',Le ρ10 H10 ρ' H'∧RH X.K X.mg ρ' H' h11∧RP X.K ρ' H' v v') I10 ⟨ρ10,σp9,h10,rs9.le l10,rh10,by
          show Ful _ _ _ _ _ (me σp9 h10) _
          rw[ee];exact fun ρ' H' v' l r e=>⟨ρ',l,r,e⟩⟩) fun u11 s11 ⟨v',H11,I11,ru11,ρ11,l11,rh11,rv11⟩=>?_
         have q11:=Ful.le l11 q10
         have lall:Le (ρ1++[s₂.heap.objs.size]) H₃ ρ11 H11:=l6.trans (l8.trans (l9.trans (l10.trans l11)))
         obtain ⟨oa,eoa,roa⟩:=rh11.obj (lall.get hrho)
         rw[eoa] at q11
         cases oa with
         | dic kvs=>exact q11.elim
         | exc x=>exact q11.elim
         | lst ys =>
          dsimp only at q11
          by_cases hl11:ys.length<sizeLine
          ·rw[if_pos hl11] at q11
           obtain ⟨ys',ey',ry⟩:=roa
           obtain ⟨rh12,l12⟩:=rh11.put (lall.get hrho) (o:=.lst (ys++[v])) (ho:=.lst (ys'++[v'])) ⟨_,rfl,ry.append (.cons rv11 .nil)⟩
           have ap:=kh (X:=cF X scope cl s₃ H₃ fp (vars++frees)) _ s11 σ9 H11 (.ref s₂.heap.objs.size) [v'] (.ref s₂.heap.objs.size) [u11] (fun _ H'=>H'=upd H11 s₂.heap.objs.size (.lst (ys'++[v']))) I11 rfl (.cons ru11 .nil) ⟨s₂.heap.objs.size,ys',v',rfl,rfl,ey',by rw[←ry.length];exact hl11,rfl⟩
           refine thn ap fun _ s12 ⟨_,H12,I12,_,eH⟩=>?_
           subst eH
           obtain ⟨I12',st12,fr12⟩:=back I12
           exact ⟨_,by omega,i+1,σ9,_,ρ11,σp9,_,rfl,hlt,I12',st12,fr12,lall.trans l12,(rs9.le l10).le (l11.trans l12),rh12,Ful.le l12 q11⟩
          ·rw[if_neg hl11] at q11;exact q11.elim
        | exc x h11=>rw[ee] at q10;exact q10.elim
        | bad=>rw[ee] at q10;exact q10.elim
      | exc x h10=>rw[em] at q9;exact q9.elim
      | bad=>rw[em] at q9;exact q9.elim
     | _=>rw[eg] at q8;exact q8.elim
    ·rw[if_neg hok] at q6;exact q6.elim
   ·have e:i=it.xs.length:=by omega
    rw[e,List.drop_length] at q6
    simp only[cGo] at q6
    by_cases hok:it.ok h6
    ·rw[if_pos hok] at q6
     obtain ⟨_,j2⟩:=jr ρ6 H6 h6 i (l3.trans l6) rh6 hok
     refine thn (T.done (cF X scope cl s₃ H₃ fp (vars++frees)) rfl rfl rfl g.calm i [] s6 σ6 H6 (fun _ _=>False) I6 (stat fr6) st6 (j2 (by omega))) fun r s7 ⟨hr,I7⟩=>?_
     subst hr
     obtain ⟨m7,ns7,_⟩:=I7.loc
     have IX:=I3.call' (s':=s7) (ch:=fp) I7.os I7.base I7.hok I7.bare fun b hb=>by
      obtain ⟨_,a2,_,a4,a5,a6⟩:=fp3 b hb
      exact ⟨a4,a2,a5,a6⟩
     exact fin _ _ H6 s7 m7 IX I7.free ns7 (Nat.ne_of_gt I3.lt) I3.sz (I3.nofs (Nat.le_refl _)) (fun x c e z=>by
      obtain ⟨v,qc⟩:=I3.cell x c e
      exact absurd qc.lt (by rw[z];exact Nat.lt_irrefl _)) (fun p hp z=>absurd (Heap.lt_size (I3.pin p hp).1) (by rw[z];exact Nat.lt_irrefl _)) (q6 ρ6 H6 _ (Le.refl _ _) rh6 (.loc (l6.get hrho)))
    ·rw[if_neg hok] at q6;exact q6.elim
  exact codeAny_compStart_list (loop _ rfl) (T.self X.A 0 _ _ _ (T.keep _ _ _ st3 (fun b _ o e=>keep4 b o e)) (loop _ rfl))
 exact goal3
theorem bU (g:Good X N W G k) {tg iter elt:Expr} {ifs:List Expr} {scope:Scope} {pos:Pos} {vars frees G':List Str} {fm:List Nat} {mi:Mx MIt} {gt:Mg} {mt:Mx Bool} {me:Mx PV} (C:CompOk X N scope vars frees fm)
  (nd:(vars++frees).Nodup) (hgl:∀x∈G',scope.names.lookup x=some .globalImplicit) (dbg:∀x∈(vars++frees)++G',(x == ("__debug__":Str))=false∧(x == ("__classdict__":Str))=false∧x≠"__name__")
  (hi:MI X tg iter mi)
  (hY:∀Y:Cx,Y.prog=X.prog→Y.w=X.w→Y.K=X.K→Y.mg=X.mg→Y.base=X.base→Y.env.scope=relabel scope X.env→Good Y (vars++frees) vars G' k→MG Y tg gt∧MTs Y ifs mt∧ME Y elt me)
  (hs:∀x,foldedSetIterable iter X.env x=pure x:=by intro _;rfl):ME X (.ListComp elt [⟨tg,iter,ifs,0⟩] scope pos) (aY vars.length fm mi gt mt me):=by
 intro pins s σ H Q I tm
 rw[eval_ListComp]
 refine kn g C nd hgl dbg hi hY hs I tm fun acc D H6 s7 m7 IX hC ns hL hz hfs hcl hp q=>?_
 refine ⟨m7,ns,fun h'' hsb=>⟨.ref acc,H6,?_,rfl,q⟩⟩
 exact IX.turned (it:=D) (t':=s7.toks) (fun b o hb e=>hsb.extBut b o hb e) hC hL (.inr hz) hcl hp
theorem bA (g:Good X N W G k) (i:Nat) {y:Str} {py spos:Pos} {tg iter elt:Expr} {ifs:List Expr} {scope:Scope} {pos:Pos} {vars frees G':List Str} {fm:List Nat} {mi:Mx MIt} {gt:Mg} {mt:Mx Bool} {me:Mx PV} (hyi:N[i]?=some y) (hw:W[i]?=some y)
  (hsw:swapsWith (.ListComp elt [⟨tg,iter,ifs,0⟩] scope pos) (some (.Name y py)) spos.line X.env=pure true) (C:CompOk X N scope vars frees fm)
  (nd:(vars++frees).Nodup) (hgl:∀x∈G',scope.names.lookup x=some .globalImplicit) (dbg:∀x∈(vars++frees)++G',(x == ("__debug__":Str))=false∧(x == ("__classdict__":Str))=false∧x≠"__name__")
  (hi:MI X tg iter mi)
  (hY:∀Y:Cx,Y.prog=X.prog→Y.w=X.w→Y.K=X.K→Y.mg=X.mg→Y.base=X.base→Y.env.scope=relabel scope X.env→Good Y (vars++frees) vars G' k→MG Y tg gt∧MTs Y ifs mt∧ME Y elt me)
  (hs:∀x,foldedSetIterable iter X.env x=pure x:=by intro _;rfl):MS X (.Assign [.Name y py] (.ListComp elt [⟨tg,iter,ifs,0⟩] scope pos) spos) (mSet i (aY vars.length fm mi gt mt me)):=by
 intro pins s σ H D I tm
 obtain ⟨ρ,σp,h,rs,rh,q⟩:=tm
 rw[exec_Assign_Name_used _ _ _ _ hsw]
 refine wpAny_bind (wpAny_standAt (wpAny_bind ?_))
 show wpAny _ X.A (do let _ ←comprehension (.ListComp elt [⟨tg,iter,ifs,0⟩] scope pos) scope X.env _ (newList []) false (eval iter X.env) (some (assign (.Name y py) X.env))) _ _ s
 refine wpAny_bind (wpAny_mono (kn (pos:=pos) g C nd hgl dbg hi hY hs (use:=some (assign (.Name y py) X.env)) (Qv:=fun _ s'=>SP X pins D .next s') (pp:=firstIterPos [⟨tg,iter,ifs,0⟩] pos) (Q:=fun v H'=>D.nx (σ.set i (some v)) H') I
  ⟨ρ,σp,h,rs,rh,FulS.ex q fun ρ1 H1 v v' h1 l r z w=>w ρ1 H1 _ (Le.refl _ _) r ((rs.le l).set i z)⟩ fun acc D' H6 s7 m7 IX hC ns hL hz hfs hcl hp q6=>?_) (fun _ s' hq=>wpAny_pure (wpAny_pure hq)) fun _ _ e=>e)
 ·obtain ⟨o,es,ep,ho,hd,hr⟩:=id ns
  have IP:Inv X (pins++[(D',o)]) σ H6 s7:=IX.pins_of fun p hp'=>(List.mem_append.mp hp').elim (fun z=>IX.pin p (List.mem_append_right _ z)) fun z=>by
   have e:p=(D',o):=by simpa using z
   subst e
   exact ⟨ho,hC,hL,hfs,fun v z=>by rw[hd] at z;cases z⟩
  have st:=mZ (X:=X) (pos:=py) (by rw[g.hN];exact g.nd) (g.x hyi) (g.loc y (aL hyi)) (g.fn y (aL hw)) (pins++[(D',o)]) s7 σ H6 (.ref acc) (.ref acc) (fun σ' H'=>σ'=σ.set i (some (.ref acc))∧H'=H6) IP rfl ⟨rfl,rfl⟩
  refine thn st fun _ s8 ⟨σ8,H8,I8,e1,e2⟩=>?_
  subst e1;subst e2
  have pn:=I8.pin (D',o) (List.mem_append_right _ (List.mem_append_right _ (by simp)))
  refine ⟨m7,⟨o,es,ep,pn.1,hd,hr⟩,fun h'' hsb=>⟨_,_,?_,q6⟩⟩
  exact (I8.unpinned).turned (it:=D') (t':=s8.toks) (fun b o hb e=>hsb.extBut b o hb e) hC hL (.inr hz) hcl hp
end
section
variable {X:Cx} {N W G:List Str} {k:Nat}
end
section
variable {X:Cx} {N W G:List Str} {k:Nat} {σ:L2.St} {H:Hp} {s:Shared}
end
section
variable {prog:Program} {w:World} {A:Around} {E:Value→Shared→Prop} {h:Heap} {g:Array GenState} {d:Drawn} {t:Nat} {os:OsState} {a C:Addr} {o:Obj} {K:PySem.W.Frag}
end
section
variable {X:Cx} {N W G:List Str} {k:Nat}
end
theorem iF {f:PV→Option PyData} {n:Nat} (hf:∀v d,f v=some d→d.depth≤n∧d.hasDict=false):∀{xs:List PV} {ds:List PyData},b7 f xs=some ds→PyData.depthAll ds≤n∧PyData.hasDictAll ds=false
 | [],ds,e=>by cases e;simp[PyData.depthAll,PyData.hasDictAll]
 | x::r,ds,e=>by
  simp only[b7] at e
  split at e
  ·rename_i d ds' e1 e2
   cases e
   obtain ⟨a1,a2⟩:=hf _ _ e1
   obtain ⟨b1,b2⟩:=iF hf e2
   simp only[PyData.depthAll,PyData.hasDictAll,a2,b2]
   exact ⟨by omega,rfl⟩
  ·cases e
theorem lv {h:MH}:∀(n:Nat) (v:PV) (d:PyData),rd n h v=some d→d.depth≤n∧d.hasDict=false
 | 0,v,d,e=>by
  cases v <;> simp only[rd] at e <;> cases e <;> simp[PyData.depth,PyData.hasDict]
 | n+1,v,d,e=>by
  have key:∀xs,(∀ds,b7 (rd n h) xs=some ds→PyData.depthAll ds≤n∧PyData.hasDictAll ds=false):=fun xs ds=>iF (lv n)
  cases v with
  | non=>simp only[rd] at e;cases e;simp[PyData.depth,PyData.hasDict]
  | bl b=>simp only[rd] at e;cases e;simp[PyData.depth,PyData.hasDict]
  | int b=>simp only[rd] at e;cases e;simp[PyData.depth,PyData.hasDict]
  | str b=>simp only[rd] at e;cases e;simp[PyData.depth,PyData.hasDict]
  | tup xs =>
   simp only[rd,Option.map_eq_some_iff] at e
   obtain ⟨ds,e1,rfl⟩:=e
   obtain ⟨a,b⟩:=key xs ds e1
   exact ⟨by simp only[PyData.depth];omega,by simp only[PyData.hasDict,b]⟩
  | frl xs =>
   simp only[rd,Option.map_eq_some_iff] at e
   obtain ⟨ds,e1,rfl⟩:=e
   obtain ⟨a,b⟩:=key xs ds e1
   exact ⟨by simp only[PyData.depth];omega,by simp only[PyData.hasDict,b]⟩
  | loc m =>
   simp only[rd] at e
   split at e
   ·rename_i xs _
    simp only[Option.map_eq_some_iff] at e
    obtain ⟨ds,e1,rfl⟩:=e
    obtain ⟨a,b⟩:=key xs ds e1
    exact ⟨by simp only[PyData.depth];omega,by simp only[PyData.hasDict,b]⟩
   ·cases e
section
variable {X:Cx} {N W G:List Str} {k:Nat}
end
theorem i7 {p:Str→Prop} {a:Str} {l:List Str} (h:p a) (t:∀x∈l,p x):∀x∈a::l,p x:=fun x hx=>by
 rcases List.mem_cons.mp hx with rfl|z
 ·exact h
 ·exact t x z
section
variable {X:Cx} {N W G:List Str} {k:Nat}
theorem Cal.at {Y:Cx} {x:Str} {ps:List Str} {F:List PV→MH→Out PV} {i:Nat} (e1:Y.prog=X.prog) (e2:Y.w=X.w) (e3:Y.K=X.K) (e4:Y.mg=X.mg) (e5:Y.base=X.base) (c:Cal X x ps F i):Cal Y x ps F i:=c.to e1 e2 e3 e4 e5
end
end MM
namespace MM
open PySem PySem.Spec PyProof.Rows L2
theorem compOk {X:Cx} {N:List Str} {scope sc:Scope} {vars frees:List Str} {fm:List Nat} (hsc:X.env.scope=sc) (h1:scope.kind=.function) (h2:∀y∈scope.names,y.2≠.cell) (h3:∀y∈scope.names,y.2=.local→scope.names.lookup y.1=some .local) (h4:∀x∈vars,scope.names.lookup x=some .local)
  (h5:∀x∈frees,scope.names.lookup x=some .free) (h6:∀y∈scope.names,y.2=.free→y.1∈frees) (h7:fm.map (fun i=>N[i]?)=frees.map some) (h8:∀x∈frees,sc.names.lookup x=some .cell):CompOk X N scope vars frees fm :=
 ⟨h1,h2,h3,h4,h5,h6,h7,fun x hx=>by rw[←hsc] at h8;exact h8 x hx⟩
end MM
namespace MM
open PySem PySem.Spec PyProof.Rows L2
noncomputable local instance (priority:=1) cdec16 (p:Prop):Decidable p:=Classical.propDecidable p
section
variable {σ:PSt} {h:MH}
@[simp] theorem mComp_ap {nv:Nat} {fm:List Nat} {mi:Mx MIt} {gt:Mg} {mt:Mx Bool} {me:Mx PV}:aY nv fm mi gt mt me σ h =
 (mi σ h).bind fun it h1=>(cGo it h1.length gt mt me it.xs (cSt nv fm σ) (h1++[.lst []])).bind fun _ h3=>.ok (.loc h1.length) h3:=rfl
theorem app_0 {o:MO} {g:MH}:(h++o::g)[h.length]?=some o:=by simp
end
end MM
namespace MM
open PySem PySem.Spec PyProof.Rows L2
end MM
namespace MM
open PySem PySem.Spec PyProof.Rows L2
noncomputable local instance (priority:=1) cdec18 (p:Prop):Decidable p:=Classical.propDecidable p
noncomputable def mMt (f:Nat→List PV→MH→Out PV) (m:Mx PV) (ma:Mx (List PV)):Mx PV:=fun σ h=>(m σ h).bind fun o h1=>match o with
 | .loc n=>(match h1[n]? with
  | some (.lst _)=>(ma σ h1).bind fun vs h2=>(f n vs h2).ne
  | _=>.bad)
 | _=>.bad
def fR (n:Nat) (vs:List PV) (h:MH):Out PV:=match vs,h[n]? with
 | [v],some (.lst xs)=>if xs.length<sizeLine then .ok .non (h.set n (.lst (xs++[v]))) else .bad
 | _,_=>.bad
section
variable {X:Cx} {N W G:List Str} {k:Nat}
def mtJ (X:Cx) (f:Nat→List PV→MH→Out PV):V→List V→Hp→VK→Prop:=fun x vs H Q=>∃ρ h n a ps,x=.ref a∧ρ[n]?=some a∧RH X.K X.mg ρ H h∧RPs X.K ρ H ps vs∧Ful0 X (RV' X) ρ H (f n ps h) Q
theorem pf:MtR X "list.append" (mtJ X fR):=by
 intro pins s σ H x vs v us Q I rx rv ⟨ρ,h,n,a,ps,e,en,rh,rp,q⟩
 subst e
 obtain ⟨o,eo,ro⟩:=rh.obj en
 unfold fR at q
 cases rp with
 | nil=>rw[eo] at q;exact q.elim
 | cons r1 t1 =>
  cases t1 with
  | cons _ _=>rw[eo] at q;exact q.elim
  | nil =>
   rw[eo] at q
   cases o with
   | lst xs =>
    dsimp only at q
    by_cases hl:xs.length<sizeLine
    ·rw[if_pos hl] at q
     obtain ⟨ys,ey,ry⟩:=ro
     obtain ⟨rh',l'⟩:=rh.put en (o:=.lst (xs++[_])) (ho:=.lst (ys++[_])) ⟨_,rfl,ry.append (.cons r1 .nil)⟩
     exact kh pins s σ H _ _ v us Q I rx rv ⟨a,ys,_,rfl,rfl,ey,by rw[←ry.length];exact hl,q ρ _ .non l' rh' .non⟩
    ·rw[if_neg hl] at q;exact q.elim
   | _=>exact q.elim
variable {o e:Expr} {es:List Expr} {name:Str} {apos cpos:Pos} {id:String} {f:Nat→List PV→MH→Out PV} {m:Mx PV} {ma:Mx (List PV)}
theorem tM_mt {ta:TA} (hna:∀σ H Q,tM X (RVs' X) ma σ H Q→ta σ H Q) {σ:L2.St} {H:Hp} {Q:VK} (tm:tM X (RV' X) (mMt f m ma) σ H Q):tM X (RV' X) m σ H (fun x H1=>tyV X.K "list" x H1∧ta σ H1 fun xs H2=>mtJ X f x xs H2 Q):=by
 obtain ⟨ρ,σp,h,rs,rh,q⟩:=tm
 refine ⟨ρ,σp,h,rs,rh,?_⟩
 unfold mMt at q
 refine Ful.bind q fun ρ1 H1 x x' h1 _ l1 rh1 rx q1=>?_
 cases rx with
 | @loc n a en =>
  obtain ⟨ob,eo,ro⟩:=rh1.obj en
  dsimp only at q1
  rw[eo] at q1
  cases ob with
  | lst xs =>
   obtain ⟨ys,ey,ry⟩:=ro
   refine ⟨.inl ⟨rfl,ys,SqL.of ey⟩,hna σ H1 _ ⟨ρ1,σp,h1,rs.le l1,rh1,?_⟩⟩
   exact Ful.bind q1 fun ρ2 H2 vs vs' h2 _ l2 rh2 rvs q2=>⟨ρ2,h2,n,a,vs,rfl,l2.get en,rh2,rvs,q2.zero⟩
  | _=>exact q1.elim
 | _=>exact q1.elim
theorem me_bm (slot:Slot "list" name id) (hty:typeOf (.builtin id)=pure (.type "method_descriptor")) (hm:MtR X id (mtJ X f)) (ho:ME X o m) (ha:MA X (e::es) ma)
  (hbase:attributeBase o name X.env (eval o X.env)=eval o X.env:=by rfl)
  (hfew:((backTo cpos (starEach (e::es) X.env)).all (fun x=>!x.1) && (backToKw cpos (keywordEach [] X.env)).all (fun x=>x.1.isSome)
   && decide ((e::es).length+([]:List Keyword).length+(if ([]:List Keyword).isEmpty then 0 else 1)<30))=true:=by rfl)
  (hline:(apos.endLine == cpos.line)=true:=by rfl) (hs:starEach (e::es) X.env=(false,eval e X.env)::starEach es X.env:=by rfl) (hplain:(backTo cpos (starEach es X.env)).any (·.1)=false:=by rfl) :
  ME X (.Call (.Attribute o name apos) (e::es) [] cpos) (mMt f m ma) :=
 PE.imp (pe_bm PySem.F.plainAttrs_list slot hty hm ho ha hbase hfew hline hs hplain) fun σ H Q q=>tM_mt (fun _ _ _ z=>z) q
@[simp] theorem mMt_ap {σ:PSt} {h:MH}:mMt f m ma σ h=(m σ h).bind fun o h1=>match o with
 | .loc n=>(match h1[n]? with
  | some (.lst _)=>(ma σ h1).bind fun vs h2=>(f n vs h2).ne
  | _=>.bad)
 | _=>.bad:=rfl
end
end MM
namespace MM
open PySem PySem.Spec PyProof.Rows L2
end MM
namespace MM
open PySem PySem.Spec PyProof.Rows L2
noncomputable local instance (priority:=1) cdec20 (p:Prop):Decidable p:=Classical.propDecidable p
def bX (h:MH):PV→Option (List PV)
 | .tup xs=>some xs
 | .frl xs=>some xs
 | .loc n=>(match h[n]? with
  | some (.lst xs)=>some xs
  | _=>none)
 | _=>none
section
variable {X:Cx} {N W G:List Str} {k:Nat}
theorem ic {ρ:List Addr} {H:Hp} {h:MH} {x:PV} {x':V} {xs:List PV} (rh:RH X.K X.mg ρ H h) (rx:RP X.K ρ H x x') (e:bX h x=some xs):∃a ys,x'=.ref a∧(SqL X.K H a ys∨SqT X.K H a ys)∧RPs X.K ρ H xs ys:=by
 cases rx with
 | tup s r=>cases e;exact ⟨_,_,rfl,.inr s,r⟩
 | frl s r=>cases e;exact ⟨_,_,rfl,.inl s.sq,r⟩
 | @loc n a en =>
  obtain ⟨o,eo,ro⟩:=rh.obj en
  simp only[bX,eo] at e
  cases o with
  | lst ys =>
   cases e
   obtain ⟨zs,ez,rz⟩:=ro
   exact ⟨a,zs,rfl,.inl (SqL.of ez),rz⟩
  | _=>cases e
 | _=>cases e
variable {a b c:Expr} {ma mb mc:Mx PV} {f g':PV→PV→MH→Out PV} {op op':CmpOp} {pos:Pos}
noncomputable def opIn (neg:Bool) (x y:PV) (h:MH):Out PV:=match bX h y with
 | some ys=>(match rd 60 h x,b7 (rd 60 h) ys with
  | some d,some ds=>if d.canLay0=true∧PyData.canLayAll0 ds=true then .ok (.bl (if neg then !ds.any (fun e=>PyData.eqv e d) else ds.any (fun e=>PyData.eqv e d))) h else .bad
  | _,_=>.bad)
 | none=>.bad
theorem jG:∀{ds:List PyData},PyData.canLayAll0 ds=true→∀d∈ds,d.canLay0=true
 | [],_,d,hd=>nomatch hd
 | e::ds,h,d,hd=>by
  simp only[PyData.canLayAll0,Bool.and_eq_true] at h
  rcases List.mem_cons.mp hd with rfl|hd
  ·exact h.1
  ·exact jG h.2 d hd
theorem kd {hp:Heap} {fq:Value→Bool} {dx:PyData} (hf:∀u d as,Reads hp u d as→fq u=PyData.eqv d dx):∀{us:List Value} {ds:List PyData} {as:List Addr},ReadsAll hp us ds as→us.any fq=ds.any fun e=>PyData.eqv e dx
 | _,_,_,.nil=>rfl
 | _,_,_,.cons r t=>by rw[List.any_cons,List.any_cons,hf _ _ _ r,kd hf t]
theorem j3 {hp:Heap}:∀{us:List Value} {ds:List PyData} {as:List Addr},ReadsAll hp us ds as→∀u∈us,∃d as',d∈ds∧Reads hp u d as'
 | _,_,_,.nil,u,h=>nomatch h
 | _,_,_,.cons r t,u,h=>by
  rcases List.mem_cons.mp h with rfl|h
  ·exact ⟨_,_,List.mem_cons_self,r⟩
  ·obtain ⟨d,as',hd,hr⟩:=j3 t u h
   exact ⟨d,as',List.mem_cons_of_mem _ hd,hr⟩
noncomputable def fq (hp:Heap) (dx:PyData) (u:Value):Bool:=if z:∃d as,Reads hp u d as then PyData.eqv z.choose dx else false
theorem fq_is {hp:Heap} {dx:PyData} {u:Value} {d:PyData} {as:List Addr} (r:Reads hp u d as):fq hp dx u=PyData.eqv d dx:=by
 have z:∃d as,Reads hp u d as:=⟨d,as,r⟩
 unfold fq
 rw[dif_pos z]
 obtain ⟨as',h'⟩:=z.choose_spec
 rw[←(Reads.unique r _ _ h').1]
theorem ia {k:Nat} (hr:Room k X.A) (neg:Bool):OpJ X (compareOp (if neg then .NotIn else .In)) (opIn neg):=by
 intro pins s σ H x' y' u v Q I rx' ry' ⟨ρ,h,x,y,rh,rx,ry,q⟩
 unfold opIn at q
 cases es:bX h y with
 | none=>rw[es] at q;exact q.elim
 | some ys =>
  rw[es] at q
  dsimp only at q
  obtain ⟨a,zs,rfl,hsq,rzs⟩:=ic rh ry es
  cases ex:rd 60 h x with
  | none=>rw[ex] at q;exact q.elim
  | some dx =>
   rw[ex] at q
   cases ed:b7 (rd 60 h) ys with
   | none=>rw[ed] at q;exact q.elim
   | some ds =>
    rw[ed] at q
    dsimp only at q
    by_cases hl:dx.canLay0=true∧PyData.canLayAll0 ds=true
    ·rw[if_pos hl] at q
     cases ry'
     obtain ⟨_,rX⟩:=cm I rh 60 x x' u dx rx rx' ex
     have hdp:=(lv 60 x dx ex).1
     have eqs:∀(its:List Value),Vals zs its→(∀w∈its,SeqAt.EqAt X.A.in1 s w u (fq s.heap dx w))∧its.any (fq s.heap dx)=ds.any fun e=>PyData.eqv e dx:=fun its rv=>by
      obtain ⟨as,RA⟩:=cT (fun v v' u d r1 r2 e=>cm I rh 60 v v' u d r1 r2 e) rzs rv ed
      refine ⟨fun w hw=>?_,kd (fun u d as r=>fq_is r) RA⟩
      obtain ⟨d,as',hd,hrd⟩:=j3 RA w hw
      rw[fq_is hrd]
      refine SeqAt.eqAt_reads d dx X.A.in1 s w u _ _ hrd rX (jG hl.2 d hd) hl.1 ?_
      have:=hr.un
      show X.A.units+1+_<_
      omega
     cases neg with
     | false =>
      rcases hsq with hq|hq
      ·obtain ⟨its,rv,pl,hz⟩:=I.list hq
       obtain ⟨h1,h2⟩:=eqs its rv
       refine SeqAt.in_listAt (fq s.heap dx) pl.isList (fun w hw=>h1 w (by simpa using hw)) ⟨.bl _,H,I,rfl,?_⟩
       rw[show its.toArray.any (fq s.heap dx)=its.any (fq s.heap dx) by simp,h2]
       exact q ρ H _ (Le.refl _ _) rh (.bl _)
      ·obtain ⟨its,rv,pl,hz⟩:=I.tuple hq
       obtain ⟨h1,h2⟩:=eqs its rv
       refine SeqAt.in_tupleAt (fq s.heap dx) pl (fun w hw=>h1 w (by simpa using hw)) ⟨.bl _,H,I,rfl,?_⟩
       rw[show its.toArray.any (fq s.heap dx)=its.any (fq s.heap dx) by simp,h2]
       exact q ρ H _ (Le.refl _ _) rh (.bl _)
     | true =>
      rcases hsq with hq|hq
      ·obtain ⟨its,rv,pl,hz⟩:=I.list hq
       obtain ⟨h1,h2⟩:=eqs its rv
       refine SeqAt.notIn_listAt (fq s.heap dx) pl.isList (fun w hw=>h1 w (by simpa using hw)) ⟨.bl _,H,I,rfl,?_⟩
       rw[show its.toArray.any (fq s.heap dx)=its.any (fq s.heap dx) by simp,h2]
       exact q ρ H _ (Le.refl _ _) rh (.bl _)
      ·obtain ⟨its,rv,pl,hz⟩:=I.tuple hq
       obtain ⟨h1,h2⟩:=eqs its rv
       refine SeqAt.notIn_tupleAt (fq s.heap dx) pl (fun w hw=>h1 w (by simpa using hw)) ⟨.bl _,H,I,rfl,?_⟩
       rw[show its.toArray.any (fq s.heap dx)=its.any (fq s.heap dx) by simp,h2]
       exact q ρ H _ (Le.refl _ _) rh (.bl _)
    ·rw[if_neg hl] at q;exact q.elim
noncomputable def fList (xs:List PV) (h:MH):Out PV:=match xs with
 | [x]=>(match bX h x with
  | some ys=>newL ys h
  | none=>.bad)
 | _=>.bad
noncomputable def fTuple (xs:List PV) (h:MH):Out PV:=match xs with
 | [x]=>(match bX h x with
  | some ys=>.ok (.tup ys) h
  | none=>.bad)
 | _=>.bad
theorem bV:dR X (.type "list") fList:=by
 intro pins s σ H xs us Q I r ⟨ρ,h,ps,rh,rp,q⟩
 cases rp with
 | nil=>exact q.elim
 | cons r1 t1 =>
  cases t1 with
  | cons _ _=>exact q.elim
  | nil =>
   rename_i x y
   unfold fList at q
   cases es:bX h x with
   | none=>simp only[es] at q;exact q.elim
   | some ys =>
    simp only[es] at q
    obtain ⟨a,zs,rfl,hsq,rzs⟩:=ic rh r1 es
    obtain ⟨_,q'⟩:=ii rh rzs q
    exact ld pins s σ H _ us Q I r ⟨a,zs,rfl,hsq,q'⟩
theorem lr:dR X (.type "tuple") fTuple:=by
 intro pins s σ H xs us Q I r ⟨ρ,h,ps,rh,rp,q⟩
 cases rp with
 | nil=>exact q.elim
 | cons r1 t1 =>
  cases t1 with
  | cons _ _=>exact q.elim
  | nil =>
   rename_i x y
   unfold fTuple at q
   cases es:bX h x with
   | none=>simp only[es] at q;exact q.elim
   | some ys =>
    simp only[es] at q
    obtain ⟨a,zs,rfl,hsq,rzs⟩:=ic rh r1 es
    rcases hsq with hq|hq
    ·refine gF pins s σ H _ us Q I r ⟨a,zs,rfl,.inl ⟨hq,fun l hl=>?_⟩⟩
     obtain ⟨r',l'⟩:=rh.tup hl zs
     exact q ρ _ _ l' r' (.tup (SqT.of cc) (rzs.le l'))
    ·exact gF pins s σ H _ us Q I r ⟨a,zs,rfl,.inr ⟨hq,q ρ H _ (Le.refl _ _) rh (.tup hq rzs)⟩⟩
def cutP (xs:List PV) (lo hi:Option Int):List PV:=(xs.drop (HT.sIx xs.length 0 lo)).take (HT.sIx xs.length xs.length hi - HT.sIx xs.length 0 lo)
noncomputable def fSl (x:PV) (lo hi:Option Int) (h:MH):Out PV:=match x with
 | .tup xs=>if HT.sIx xs.length 0 lo=0∧HT.sIx xs.length xs.length hi=xs.length then .bad else .ok (.tup (cutP xs lo hi)) h
 | .frl xs=>.ok (.loc h.length) (h++[.lst (cutP xs lo hi)])
 | .loc n=>(match h[n]? with
  | some (.lst xs)=>.ok (.loc h.length) (h++[.lst (cutP xs lo hi)])
  | _=>.bad)
 | _=>.bad
def slJ (X:Cx) (f:PV→Option Int→Option Int→MH→Out PV):V→Option Int→Option Int→Hp→VK→Prop:=fun x' lo hi H Q=>∃ρ h x,RH X.K X.mg ρ H h∧RP X.K ρ H x x'∧Ful0 X (RV' X) ρ H (f x lo hi h) Q
theorem jO {K:PySem.W.Frag} {ρ:List Addr} {H:Hp} {xs:List PV} {ys:List V} (r:RPs K ρ H xs ys) (lo hi:Option Int):RPs K ρ H (cutP xs lo hi) (cutV ys lo hi):=by
 unfold cutP cutV
 rw[r.length]
 exact (r.drop _).take _
theorem sj_sl:SlR X (slJ X fSl):=by
 intro pins s σ H x' v vl vu lo hi sl Q I rx hs pl pu ⟨ρ,h,x,rh,rxx,q⟩
 cases rxx with
 | tup s1 r1 =>
  unfold fSl at q
  dsimp only at q
  rename_i xs a ys
  by_cases z:HT.sIx xs.length 0 lo=0∧HT.sIx xs.length xs.length hi=xs.length
  ·rw[if_pos z] at q;exact q.elim
  ·rw[if_neg z] at q
   refine sl_tup pins s σ H _ v vl vu lo hi sl Q I rx hs pl pu ⟨a,ys,rfl,s1,by rw[←r1.length];exact z,fun p hp=>?_⟩
   obtain ⟨r',l'⟩:=rh.tup hp (cutV ys lo hi)
   exact q ρ _ _ l' r' (.tup (SqT.of cc) ((jO r1 lo hi).le l'))
 | frl s1 r1 =>
  rename_i xs a ys
  refine mL pins s σ H _ v vl vu lo hi sl Q I rx hs pl pu ⟨a,ys,rfl,s1.sq,fun p hp=>?_⟩
  obtain ⟨r',l'⟩:=rh.new hp (o:=.lst (cutP xs lo hi)) (ho:=.lst (cutV ys lo hi)) ⟨_,rfl,jO r1 lo hi⟩
  exact q _ _ _ l' r' (.loc (by rw[←rh.len];simp))
 | @loc n a en =>
  obtain ⟨o,eo,ro⟩:=rh.obj en
  unfold fSl at q
  dsimp only at q
  rw[eo] at q
  cases o with
  | lst xs =>
   obtain ⟨ys,ey,ry⟩:=ro
   refine mL pins s σ H _ v vl vu lo hi sl Q I rx hs pl pu ⟨a,ys,rfl,SqL.of ey,fun p hp=>?_⟩
   obtain ⟨r',l'⟩:=rh.new hp (o:=.lst (cutP xs lo hi)) (ho:=.lst (cutV ys lo hi)) ⟨_,rfl,jO ry lo hi⟩
   exact q _ _ _ l' r' (.loc (by rw[←rh.len];simp))
  | _=>exact q.elim
 | _=>exact q.elim
def MO' (X:Cx) (e:Option Expr) (m:Mx (Option Int)):Prop:=PO X e (tM X REq m)
def mNo:Mx (Option Int):=fun _ h=>.ok none h
def mPt (m:Mx PV):Mx (Option Int):=fun σ h=>(m σ h).bind fun v h1=>match v with
 | .int i=>.ok (some i) h1
 | _=>.bad
theorem ik:MO' X none mNo:=fun pins s σ H Q I ⟨ρ,σp,h,rs,rh,q⟩=>po_none pins s σ H Q I (q ρ H none (Le.refl _ _) rh rfl)
theorem iq {e:Expr} {m:Mx PV} (h:ME X e m):MO' X (some e) (mPt m):=fun pins s σ H Q I ⟨ρ,σp,hh,rs,rh,q⟩=>po_some h pins s σ H Q I ⟨ρ,σp,hh,rs,rh,Ful.bind q fun ρ1 H1 v v' h1 _ l1 rh1 rv q1=>by
 cases rv with
 | int i=>exact ⟨i,rfl,q1 ρ1 H1 (some i) (Le.refl _ _) rh1 rfl⟩
 | _=>exact q1.elim⟩
noncomputable def mSl (m:Mx PV) (ml mh:Mx (Option Int)):Mx PV:=fun σ h=>(m σ h).bind fun x h1=>(ml σ h1).bind fun lo h2=>(mh σ h2).bind fun hi h3=>(fSl x lo hi h3).ne
theorem kO {e:Expr} {lo hi:Option Expr} {m:Mx PV} {ml mh:Mx (Option Int)} {p2:Pos} (he:ME X e m) (hl:MO' X lo ml) (hu:MO' X hi mh):ME X (.Subscript e (.Slice lo hi none p2) pos) (mSl m ml mh) :=
 PE.imp (qT sj_sl he hl hu) fun σ H Q ⟨ρ,σp,h,rs,rh,q⟩=>⟨ρ,σp,h,rs,rh,Ful.bind q fun ρ1 H1 x x' h1 _ l1 rh1 rx q1=>⟨ρ1,σp,h1,rs.le l1,rh1,Ful.bind q1 fun ρ2 H2 lo lo' h2 _ l2 rh2 el q2=>by
  subst el
  exact ⟨ρ2,σp,h2,rs.le (l1.trans l2),rh2,Ful.bind q2 fun ρ3 H3 hi hi' h3 _ l3 rh3 eh q3=>by
   subst eh
   exact ⟨ρ3,h3,x,rh3,(rx.le l2).le l3,q3.zero⟩⟩⟩⟩
end
section
variable {X:Cx} {N W G:List Str} {k:Nat}
theorem qI {A:Around} {E:Value→Shared→Prop} {pins:List (Addr × Obj)} {σ:L2.St} {H:Hp} {s:Shared} {a:Addr} {ys:List V} {Q:Value→Shared→Prop} (hh:A.handled=none) (I:Inv X pins σ H s) (hq:SqL X.K H a ys∨SqT X.K H a ys)
  (h:∀(its:List Value) (h2:Heap) (It:Addr) (St:Nat→Heap→Prop),Vals ys its→Walks X.prog X.w A It [It,a] [It] its.toArray.size (fun i v=>its.toArray[i]?=some v) St→St 0 h2→(∀b∈[It,a],b<h2.objs.size)→(∀b o,s.heap.get? b=some o→h2.get? b=some o)→s.heap.objs.size=It→Q (.ref It) { s with heap:=h2}) :
  wpAny (model X.prog X.w) A (pyIter (.ref a)) Q E s:=by
 have sz:∀(o:Obj),a<s.heap.objs.size→∀b∈[s.heap.objs.size,a],b<(s.heap.push o).objs.size:=fun o hlt b hb=>by
  rw[Heap.size_push]
  rcases List.mem_cons.mp hb with rfl|hb
  ·exact Nat.lt_succ_self _
  ·rcases List.mem_cons.mp hb with rfl|hb
   ·exact Nat.lt_succ_of_lt hlt
   ·cases hb
 rcases hq with hq|hq
 ·obtain ⟨its,rv,pl,_⟩:=I.list hq
  have hl:=pl.isList
  have hlt:a<s.heap.objs.size:=by obtain ⟨_,e,_⟩:=hl;exact Heap.lt_size e
  exact wpAny_pyIter_list hl (h its _ _ _ rv (Walks.list hh _ a (Nat.ne_of_lt hlt) its.toArray) ⟨⟨_,Heap.get?_push_size _ rfl,rfl,rfl⟩,hl.push _⟩ (sz _ hlt) (fun b o e=>Heap.get?_push_of_some _ e) rfl)
 ·obtain ⟨its,rv,hl,_⟩:=I.tuple hq
  have hlt:a<s.heap.objs.size:=by obtain ⟨_,e,_⟩:=hl;exact Heap.lt_size e
  exact wpAny_pyIter_tuple hl (h its _ _ _ rv (Walks.tuple hh _ a (Nat.ne_of_lt hlt) its.toArray) ⟨⟨_,Heap.get?_push_size _ rfl,rfl,rfl⟩,hl.push _⟩ (sz _ hlt) (fun b o e=>Heap.get?_push_of_some _ e) rfl)
theorem kept2 {s:Shared} {h2 h':Heap} {It:Addr} (k1:∀b o,s.heap.get? b=some o→h2.get? b=some o) (e:s.heap.objs.size=It) (k2:∀b o,b∉[It]→h2.get? b=some o→h'.get? b=some o):∀b o,s.heap.get? b=some o→h'.get? b=some o:=fun b o q=>by
 refine k2 b o (fun hm=>?_) (k1 b o q)
 have:b=It:=by simpa using hm
 exact absurd (Heap.lt_size q) (by rw[this,e];exact Nat.lt_irrefl _)
def blsP:List PV→Option (List Bool)
 | []=>some []
 | .bl b::r=>(blsP r).map (b::·)
 | _=>none
theorem nj {K:PySem.W.Frag} {ρ:List Addr} {H:Hp}:∀{xs:List PV} {ys:List V} {bs:List Bool} {us:List Value},RPs K ρ H xs ys→Vals ys us→blsP xs=some bs→us=bs.map Value.bool
 | [],_,bs,us,.nil,hv,e=>by cases e;cases hv;rfl
 | .bl b::r,_,bs,_,.cons (.bl _) t,.cons rv tv,e=>by
  simp only[blsP,Option.map_eq_some_iff] at e
  obtain ⟨bs',e',rfl⟩:=e
  have:=nj t tv e'
  cases rv
  rw[this];rfl
theorem l0 {A:Around} (bs:List Bool):TruthOf X.prog X.w A (fun i v=>(bs.map Value.bool).toArray[i]?=some v) (fun i=>bs.getD i false):=fun i v s Q E hP hQ=>by
 have:v=.bool (bs.getD i false):=by
  have hP:(List.map Value.bool bs).toArray[i]?=some v:=hP
  rw[List.getElem?_toArray,List.getElem?_map,Option.map_eq_some_iff] at hP
  obtain ⟨b,e,rfl⟩:=hP
  rw[List.getD_eq_getElem?_getD,e];rfl
 subst this
 exact wpAny_truthy_bool hQ
theorem qk (bs:List Bool):(List.range bs.length).all (fun i=>bs.getD i false)=bs.all id:=by
 induction bs with
 | nil=>rfl
 | cons b r ih =>
  rw[List.length_cons,List.range_succ_eq_map,List.all_cons,List.all_map,List.all_cons,←ih]
  rfl
noncomputable def fAll (xs:List PV) (h:MH):Out PV:=match xs with
 | [x]=>(match (bX h x).bind blsP with
  | some bs=>.ok (.bl (bs.all id)) h
  | none=>.bad)
 | _=>.bad
theorem jq (g:Good X N W G k):dR X (.builtin "all") fAll:=by
 intro pins s σ H xs us Q I r ⟨ρ,h,ps,rh,rp,q⟩
 cases rp with
 | nil=>exact q.elim
 | cons r1 t1 =>
  cases t1 with
  | cons _ _=>exact q.elim
  | nil =>
   rename_i x y
   unfold fAll at q
   cases es:(bX h x).bind blsP with
   | none=>simp only[es] at q;exact q.elim
   | some bs =>
    simp only[es] at q
    obtain ⟨ys,e1,e2⟩:=Option.bind_eq_some_iff.mp es
    obtain ⟨a,zs,rfl,hsq,rzs⟩:=ic rh r1 e1
    cases r with
    | cons ru tu =>
     cases tu
     cases ru
     refine call_all_walk (qI (A:=X.A.in1) g.room.hd I hsq fun its h2 It St rv Wk st fp kp esz=>?_)
     have ei:=nj rzs rv e2
     refine ⟨It,_,_,_,_,St,_,rfl,Wk,st,by rw[ei];exact l0 bs,fun h' tk kk=>?_⟩
     have el:its.toArray.size=bs.length:=by rw[ei];simp
     rw[el,qk]
     exact ⟨.bl _,H,I.kept (kept2 kp esz kk),rfl,q ρ H _ (Le.refl _ _) rh (.bl _)⟩
end
theorem RH.loose {K:PySem.W.Frag} {mg:MGl} {ρ:List Addr} {H:Hp} {h:MH} (r:RH K mg ρ H h) {p:Addr} (hp:H p=none) (ho:HO):RH K mg ρ (upd H p ho) h∧Le ρ H ρ (upd H p ho):=by
 have hne:∀n a,ρ[n]?=some a→a≠p:=fun n a e z=>by
  obtain ⟨o',_,q⟩:=r.obj e
  rw[z,hp] at q
  exact q.some rfl
 have l:Le ρ H ρ (upd H p ho):=⟨⟨[],by simp⟩,fun a xs e=>by rw[aV (bu e hp)];exact e,fun a ob u e=>by rw[aV (bu e hp)];exact e⟩
 exact ⟨⟨r.len,r.nd,fun n a o e1 e2=>by rw[aV (hne n a e1)];exact (r.at' n a o e1 e2).le l⟩,l⟩
section
variable {X:Cx} {N W G:List Str} {k:Nat}
end
end MM
namespace SetT
end SetT
namespace SortT
end SortT
namespace MM
open PySem PySem.Spec PyProof.Rows L2 SetT SortT
section
variable {X:Cx} {pins:List (Addr × Obj)} {σ:L2.St} {H:Hp} {s:Shared}
end
section
variable {X:Cx} {N W G:List Str} {k:Nat}
end
end MM
namespace SeqT
open PySem
abbrev itN (tp:Bool):String:=if tp then "tuple_iterator" else "list_iterator"
abbrev sqN (tp:Bool):String:=if tp then "tuple" else "list"
def SqI (tp:Bool) (h:Heap) (it a:Addr) (i:Nat):Prop:=∃o,h.get? it=some o∧o.cls=.type (itN tp)∧o.data=.fields #[.ref a,.int i 0]
def SqO (tp:Bool) (h:Heap) (a:Addr) (xs:Array Value):Prop:=∃o,h.get? a=some o∧o.cls=.type (sqN tp)∧∃n,o.data=.seq xs n
theorem SqI.at' {tp:Bool} {h h':Heap} {it a:Addr} {i:Nat} (x:SqI tp h it a i) (k:∀o,h.get? it=some o→h'.get? it=some o):SqI tp h' it a i:=let ⟨o,e,r⟩:=x;⟨o,k o e,r⟩
theorem SqO.at' {tp:Bool} {h h':Heap} {a:Addr} {xs:Array Value} (x:SqO tp h a xs) (k:∀o,h.get? a=some o→h'.get? a=some o):SqO tp h' a xs:=let ⟨o,e,r⟩:=x;⟨o,k o e,r⟩
theorem SqI.lt {tp:Bool} {h:Heap} {it a:Addr} {i:Nat} (x:SqI tp h it a i):it<h.objs.size:=let ⟨_,e,_⟩:=x;Heap.lt_size e
section
variable {prog:Program} {w:World} {A:Around} {E:Value→Shared→Prop} {s:Shared}
theorem gJ {tp:Bool} {it a:Addr} {i:Nat} {xs:Array Value} {x:Value} {Q:Value→Shared→Prop} (hi:SqI tp s.heap it a i) (ho:SqO tp s.heap a xs) (hx:xs[i]?=some x)
  (hQ:∀h',SqI tp h' it a (i+1)→Heap.SameBut it s.heap h'→Q x { s with heap:=h'}):wpAny (model prog w) A (Builtin.SmallTypes.nextOf (.ref it)) Q E s:=by
 cases tp with
 | false=>exact wpAny_nextOf_list_item (show s.heap.IsListIter it a i from hi) (show s.heap.IsList a xs from ho) hx hQ
 | true =>
  obtain ⟨o,e,hc,hd⟩:=id hi
  obtain ⟨ol,hol,_,nl,hdl⟩:=ho
  have hT:s.TypeIs (.ref it) "tuple_iterator":=⟨o,e,hc⟩
  unfold Builtin.SmallTypes.nextOf
  refine wpAny_bind (wpAny_callSpecial?_slot (name:=Str.ofString "__next__") hT F.slot_tuple_iterator_next (wpAny_call_entry F.slot_tuple_iterator_next hT F.entry_tuple_iterator_next ?_ (F.args_tuple_iterator_next_1 _)))
  show wpAny _ _ (field (.ref it) 0 >>= _) _ _ s
  refine wpAny_bind (wpAny_field e hd (x:=.ref a) rfl ?_)
  show wpAny _ _ (if (Value.ref a == Value.none)=true then _ else _) _ _ s
  rw[if_neg (show ¬((Value.ref a == Value.none)=true) from Bool.false_ne_true)]
  show wpAny _ _ (field (.ref it) 1 >>= _) _ _ s
  refine wpAny_bind (wpAny_field e hd (x:=.int i 0) rfl ?_)
  show wpAny _ _ (seqItems? (.ref a) >>= _) _ _ s
  refine wpAny_bind (wpAny_seqItems hol hdl ?_)
  simp only[Int.toNat_natCast,hx]
  refine wpAny_bind (wpAny_setField e hd (by simp) (wpAny_pure ⟨x,rfl,wpAny_pure (hQ _ ?_ (Heap.SameBut.update ..))⟩))
  exact ⟨_,Heap.get?_update_self _ e (Obj.isFreed_of_fields (Obj.data_mapFields hd _)),(Obj.cls_mapFields ..).trans hc,by rw[Obj.data_mapFields hd];simp[rawInt]⟩
theorem lL {tp:Bool} {it a:Addr} {i:Nat} {xs:Array Value} {Q:Value→Shared→Prop} (hh:A.handled=none) (hi:SqI tp s.heap it a i) (ho:SqO tp s.heap a xs) (hx:xs[i]?=none)
  (hE:∀h' e,Heap.ExtBut it s.heap h'→(∃o,h'.get? e=some o∧o.cls=.type "StopIteration")→E (.ref e) { s with heap:=h'}):wpAny (model prog w) A (Builtin.SmallTypes.nextOf (.ref it)) Q E s:=by
 cases tp with
 | false=>exact wpAny_nextOf_list_end hh (show s.heap.IsListIter it a i from hi) (show s.heap.IsList a xs from ho) hx hE
 | true =>
  obtain ⟨o,e,hc,hd⟩:=id hi
  obtain ⟨ol,hol,_,nl,hdl⟩:=ho
  have hT:s.TypeIs (.ref it) "tuple_iterator":=⟨o,e,hc⟩
  unfold Builtin.SmallTypes.nextOf
  refine wpAny_bind (wpAny_callSpecial?_slot (name:=Str.ofString "__next__") hT F.slot_tuple_iterator_next (wpAny_call_entry F.slot_tuple_iterator_next hT F.entry_tuple_iterator_next ?_ (F.args_tuple_iterator_next_1 _)))
  show wpAny _ _ (field (.ref it) 0 >>= _) _ _ s
  refine wpAny_bind (wpAny_field e hd (x:=.ref a) rfl ?_)
  show wpAny _ _ (if (Value.ref a == Value.none)=true then _ else _) _ _ s
  rw[if_neg (show ¬((Value.ref a == Value.none)=true) from Bool.false_ne_true)]
  show wpAny _ _ (field (.ref it) 1 >>= _) _ _ s
  refine wpAny_bind (wpAny_field e hd (x:=.int i 0) rfl ?_)
  show wpAny _ _ (seqItems? (.ref a) >>= _) _ _ s
  refine wpAny_bind (wpAny_seqItems hol hdl ?_)
  simp only[Int.toNat_natCast,hx]
  refine wpAny_bind (wpAny_rule (wpAny_bind (wpAny_setField e hd (by simp) ?_)))
  show wpAny _ _ (newExc (.type "StopIteration") [] >>= _) _ _ _
  refine wpAny_bind ?_
  simp only[newExc,newTuple]
  refine wpAny_bind (wpAny_newObj_type ?_ (by size_fits))
  refine wpAny_bind (m:=firstArgMember _ _) (wpAny_of_eq (a:=Value.none) (by first | rfl | (simp only[firstArgMember];rfl)) ?_)
  refine wpAny_newObj_type ?_ (by size_fits)
  simp only[raiseNew]
  refine wpAny_bind (wpAny_handled ?_)
  rw[show A.in1.handled=none from hh]
  refine wpAny_bind (wpAny_pure (wpAny_throw ?_))
  exact hE _ _ (((Heap.SameBut.update ..).extBut.push _).push _) ⟨_,Heap.get?_push_size _ rfl,rfl⟩
theorem mO {tp:Bool} {a:Addr} {xs:Array Value} {Q:Value→Shared→Prop} (ho:SqO tp s.heap a xs)
  (hQ:Q (.ref s.heap.objs.size) { s with heap:=s.heap.push { cls:=.type (itN tp),data:=.fields #[.ref a,.int 0 0]}}):wpAny (model prog w) A (pyIter (.ref a)) Q E s:=by
 cases tp with
 | false=>exact wpAny_pyIter_list (show s.heap.IsList a xs from ho) hQ
 | true=>exact wpAny_pyIter_tuple (show s.heap.IsTuple a xs from ho) hQ
end
section
variable {prog:Program} {w:World} {A:Around} {E:Value→Shared→Prop} {s:Shared}
end
section
variable {prog:Program} {w:World} {A:Around} {E:Value→Shared→Prop} {s:Shared}
variable {z TI TO i1 i2 l1 l2:Addr} {t1 t2:Bool} {k1 k2:Nat} {xs ys:Array Value}
theorem o3 {x y a b:Value} {Q:Value→Shared→Prop} (D:ZipApart z TI TO i1 i2 l1 l2)
  (hz:IsZip s.heap z TI TO .none) (hTI:IsPair s.heap TI (.ref i1) (.ref i2)) (hTO:IsPair s.heap TO a b)
  (h1:SqI t1 s.heap i1 l1 k1) (h2:SqI t2 s.heap i2 l2 k2) (hl1:SqO t1 s.heap l1 xs) (hl2:SqO t2 s.heap l2 ys) (hx:xs[k1]?=some x) (hy:ys[k2]?=some y)
  (hQ:∀h',IsZip h' z TI TO (rawInt s.heap.objs.size)→IsPair h' TO x y→SqI t1 h' i1 l1 (k1+1)→SqI t2 h' i2 l2 (k2+1)→IsPair h' s.heap.objs.size x y→h'.objs.size=s.heap.objs.size+1 →
   (∀c o,c≠z→c≠TO→c≠i1→c≠i2→s.heap.get? c=some o→h'.get? c=some o)→Q (.ref s.heap.objs.size) { s with heap:=h'}) :
  wpAny (model prog w) A (Builtin.«zip.__next__» ⟨[.ref z],[]⟩) (fun fin s'=>∃v,fin=.done (.ret v)∧Q v s') E s:=by
 show wpAny _ _ (field (.ref z) 2 >>= _) _ _ _
 refine wpAny_bind (wpAny_field hz rfl (x:=.bool false) rfl ?_)
 show wpAny _ _ (field (.ref z) 3 >>= _) _ _ _
 refine wpAny_bind (wpAny_field hz rfl (x:=.ref TI) rfl ?_)
 refine wpAny_bind (wpAny_seqItems hTI rfl ?_)
 show wpAny _ _ (Builtin.SmallTypes.ownedTupleIsFree (.ref z) >>= _) _ _ _
 refine wpAny_bind ?_
 unfold Builtin.SmallTypes.ownedTupleIsFree
 refine wpAny_bind (wpAny_field hz rfl (x:=.none) rfl (wpAny_pure ?_))
 simp only[if_true]
 refine wpAny_bind (wpAny_rule ?_)
 refine wpAny_bind (wpAny_field hz rfl (x:=.ref TO) rfl ?_)
 refine wpAny_bind (wpAny_setField_rec hz (by simp) fun ha hza sa=>?_)
 replace hza:IsZip ha z TI TO .ellipsis:=hza
 replace sa:Heap.SameBut z s.heap ha:=sa
 refine wpAny_bind ?_
 simp only[List.zipIdx_cons,List.zipIdx_nil,List.forIn_cons,List.forIn_nil]
 refine wpAny_bind (wpAny_bind (wpAny_onRaise ?_))
 show wpAny _ _ (Builtin.SmallTypes.nextOf (.ref i1) >>= _) _ _ _
 refine wpAny_bind (gJ (s:={ s with heap:=ha}) (h1.at' fun o e=>(sa.2 _ D.i1z).trans e) (hl1.at' fun o e=>(sa.2 _ D.l1z).trans e) hx fun hb h1b sb=>wpAny_pure ?_)
 replace sb:Heap.SameBut i1 ha hb:=sb
 have TOb:IsPair hb TO a b:=(sb.2 _ D.TOi1).trans ((sa.2 _ D.TOz).trans hTO)
 refine wpAny_bind (wpAny_seqItems TOb rfl ?_)
 refine wpAny_bind (wpAny_updateSeq_pair TOb fun hc TOc sc=>?_)
 replace TOc:IsPair hc TO x b:=TOc
 replace sc:Heap.SameBut TO hb hc:=sc
 refine wpAny_bind (wpAny_letGo (wpAny_pure ?_))
 refine wpAny_bind (wpAny_bind (wpAny_onRaise ?_))
 show wpAny _ _ (Builtin.SmallTypes.nextOf (.ref i2) >>= _) _ _ _
 refine wpAny_bind (gJ (s:={ s with heap:=hc}) (h2.at' fun o e=>(sc.2 _ D.TOi2.symm).trans ((sb.2 _ D.i12.symm).trans ((sa.2 _ D.i2z).trans e)))
  (hl2.at' fun o e=>(sc.2 _ D.l2TO).trans ((sb.2 _ D.l2i1).trans ((sa.2 _ D.l2z).trans e))) hy fun hd h2d sd=>wpAny_pure ?_)
 replace sd:Heap.SameBut i2 hc hd:=sd
 have TOd:IsPair hd TO x b:=(sd.2 _ D.TOi2).trans TOc
 refine wpAny_bind (wpAny_seqItems TOd rfl ?_)
 refine wpAny_bind (wpAny_updateSeq_pair TOd fun he TOe se=>?_)
 replace TOe:IsPair he TO x y:=TOe
 replace se:Heap.SameBut TO hd he:=se
 refine wpAny_bind (wpAny_letGo (wpAny_pure (wpAny_pure ?_)))
 refine wpAny_bind (wpAny_seqItems TOe rfl ?_)
 refine wpAny_bind (wpAny_newTuple ?_)
 have hsz:he.objs.size=s.heap.objs.size:=by rw[se.1,sd.1,sc.1,sb.1,sa.1]
 have hze:IsZip he z TI TO .ellipsis:=(se.2 _ D.TOz.symm).trans ((sd.2 _ D.i2z.symm).trans ((sc.2 _ D.TOz.symm).trans ((sb.2 _ D.i1z.symm).trans hza)))
 have hke:∀c o,c≠z→c≠TO→c≠i1→c≠i2→s.heap.get? c=some o→he.get? c=some o:=fun c o c1 c2 c3 c4 e =>
  (se.2 _ c2).trans ((sd.2 _ c4).trans ((sc.2 _ c2).trans ((sb.2 _ c3).trans ((sa.2 _ c1).trans e))))
 have h1e:SqI t1 he i1 l1 (k1+1):=h1b.at' fun o e=>(se.2 _ D.TOi1.symm).trans ((sd.2 _ D.i12).trans ((sc.2 _ D.TOi1.symm).trans e))
 have h2e:SqI t2 he i2 l2 (k2+1):=h2d.at' fun o e=>(se.2 _ D.TOi2.symm).trans e
 have hzlt:z<he.objs.size:=Heap.lt_size hze
 show wpAny _ _ (Builtin.SmallTypes.ownedTupleHandOut (.ref z) (.ref he.objs.size) >>= _) _ _ _
 refine wpAny_bind ?_
 unfold Builtin.SmallTypes.ownedTupleHandOut
 have hzf:IsZip (he.push { cls:=.type "tuple",data:=.seq #[x,y]}) z TI TO .ellipsis:=Heap.get?_push_of_some _ hze
 refine wpAny_bind (wpAny_setField_rec hzf (by simp) fun hg hzg sg=>?_)
 replace hzg:IsZip hg z TI TO (rawInt he.objs.size):=hzg
 refine wpAny_setField_rec hzg (by simp) fun hh hzh sh=>?_
 replace hzh:IsZip hh z TI TO (rawInt he.objs.size):=hzh
 have up:∀c o,c≠z→he.get? c=some o→hh.get? c=some o:=fun c o c1 e=>(sh.2 _ c1).trans ((sg.2 _ c1).trans (Heap.get?_push_of_some _ e))
 have hTh:IsPair hh he.objs.size x y:=(sh.2 _ (Nat.ne_of_gt hzlt)).trans ((sg.2 _ (Nat.ne_of_gt hzlt)).trans (Heap.get?_push_size _ rfl))
 have hzs:hh.objs.size=he.objs.size+1:=by rw[sh.1,sg.1,Heap.size_push]
 rw[hsz] at hzh hTh hzs
 refine wpAny_pure ⟨_,rfl,?_⟩
 show Q (.ref he.objs.size) _
 rw[hsz]
 exact hQ hh hzh (up _ _ D.TOz TOe) (h1e.at' fun o e=>up _ o D.i1z e) (h2e.at' fun o e=>up _ o D.i2z e) hTh hzs fun c o c1 c2 c3 c4 e=>up c o c1 (hke c o c1 c2 c3 c4 e)
theorem qz {a b:Value} {Q:Fin→Shared→Prop} (hh:A.handled=none) (D:ZipApart z TI TO i1 i2 l1 l2)
  (hz:IsZip s.heap z TI TO .none) (hTI:IsPair s.heap TI (.ref i1) (.ref i2)) (hTO:IsPair s.heap TO a b)
  (h1:SqI t1 s.heap i1 l1 k1) (h2:SqI t2 s.heap i2 l2 k2) (hl1:SqO t1 s.heap l1 xs) (hl2:SqO t2 s.heap l2 ys) (hend:xs[k1]?=none∨ys[k2]?=none)
  (hE:∀h' e,(∀c o,c≠z→c≠TO→c≠i1→c≠i2→s.heap.get? c=some o→h'.get? c=some o)→(∃o,h'.get? e=some o∧o.cls=.type "StopIteration")→E (.ref e) { s with heap:=h'}) :
  wpAny (model prog w) A (Builtin.«zip.__next__» ⟨[.ref z],[]⟩) Q E s:=by
 show wpAny _ _ (field (.ref z) 2 >>= _) _ _ _
 refine wpAny_bind (wpAny_field hz rfl (x:=.bool false) rfl ?_)
 show wpAny _ _ (field (.ref z) 3 >>= _) _ _ _
 refine wpAny_bind (wpAny_field hz rfl (x:=.ref TI) rfl ?_)
 refine wpAny_bind (wpAny_seqItems hTI rfl ?_)
 show wpAny _ _ (Builtin.SmallTypes.ownedTupleIsFree (.ref z) >>= _) _ _ _
 refine wpAny_bind ?_
 unfold Builtin.SmallTypes.ownedTupleIsFree
 refine wpAny_bind (wpAny_field hz rfl (x:=.none) rfl (wpAny_pure ?_))
 simp only[if_true]
 refine wpAny_bind (wpAny_rule ?_)
 refine wpAny_bind (wpAny_field hz rfl (x:=.ref TO) rfl ?_)
 refine wpAny_bind (wpAny_setField_rec hz (by simp) fun ha hza sa=>?_)
 replace hza:IsZip ha z TI TO .ellipsis:=hza
 replace sa:Heap.SameBut z s.heap ha:=sa
 refine wpAny_bind ?_
 simp only[List.zipIdx_cons,List.zipIdx_nil,List.forIn_cons,List.forIn_nil]
 refine wpAny_bind (wpAny_bind (wpAny_onRaise ?_))
 show wpAny _ _ (Builtin.SmallTypes.nextOf (.ref i1) >>= _) _ _ _
 cases hx:xs[k1]? with
 | none =>
  refine wpAny_bind (lL (s:={ s with heap:=ha}) hh (h1.at' fun o e=>(sa.2 _ D.i1z).trans e) (hl1.at' fun o e=>(sa.2 _ D.l1z).trans e) hx fun hb e sb he=>?_)
  obtain ⟨oe,hoe,hce⟩:=he
  have hzb:IsZip hb z TI TO .ellipsis:=sb _ _ D.i1z.symm hza
  have hez:e≠z:=fun q=>by subst q;rw[hzb] at hoe;cases hoe;simp at hce
  exact wpAny_setField_rec hzb (by simp) fun hc _ sc=>hE hc e (fun c o c1 _ c3 _ q=>(sc.2 _ c1).trans (sb _ _ c3 ((sa.2 _ c1).trans q))) ⟨oe,(sc.2 _ hez).trans hoe,hce⟩
 | some x =>
  have hy:ys[k2]?=none:=by
   rcases hend with q|q
   ·rw[hx] at q;cases q
   ·exact q
  refine wpAny_bind (gJ (s:={ s with heap:=ha}) (h1.at' fun o e=>(sa.2 _ D.i1z).trans e) (hl1.at' fun o e=>(sa.2 _ D.l1z).trans e) hx fun hb h1b sb=>wpAny_pure ?_)
  replace sb:Heap.SameBut i1 ha hb:=sb
  have TOb:IsPair hb TO a b:=(sb.2 _ D.TOi1).trans ((sa.2 _ D.TOz).trans hTO)
  refine wpAny_bind (wpAny_seqItems TOb rfl ?_)
  refine wpAny_bind (wpAny_updateSeq_pair TOb fun hc TOc sc=>?_)
  replace sc:Heap.SameBut TO hb hc:=sc
  refine wpAny_bind (wpAny_letGo (wpAny_pure ?_))
  refine wpAny_bind (wpAny_bind (wpAny_onRaise ?_))
  show wpAny _ _ (Builtin.SmallTypes.nextOf (.ref i2) >>= _) _ _ _
  refine wpAny_bind (lL (s:={ s with heap:=hc}) hh (h2.at' fun o e=>(sc.2 _ D.TOi2.symm).trans ((sb.2 _ D.i12.symm).trans ((sa.2 _ D.i2z).trans e)))
   (hl2.at' fun o e=>(sc.2 _ D.l2TO).trans ((sb.2 _ D.l2i1).trans ((sa.2 _ D.l2z).trans e))) hy fun hd e sd he=>?_)
  obtain ⟨oe,hoe,hce⟩:=he
  have hzd:IsZip hd z TI TO .ellipsis:=sd _ _ D.i2z.symm ((sc.2 _ D.TOz.symm).trans ((sb.2 _ D.i1z.symm).trans hza))
  have hez:e≠z:=fun q=>by subst q;rw[hzd] at hoe;cases hoe;simp at hce
  exact wpAny_setField_rec hzd (by simp) fun hf _ sf=>hE hf e (fun c o c1 c2 c3 c4 q=>(sf.2 _ c1).trans (sd _ _ c4 ((sc.2 _ c2).trans ((sb.2 _ c3).trans ((sa.2 _ c1).trans q))))) ⟨oe,(sf.2 _ hez).trans hoe,hce⟩
theorem rH {x y a b:Value} {Q:Option Value→Shared→Prop} (D:ZipApart z TI TO i1 i2 l1 l2)
  (hz:IsZip s.heap z TI TO .none) (hTI:IsPair s.heap TI (.ref i1) (.ref i2)) (hTO:IsPair s.heap TO a b)
  (h1:SqI t1 s.heap i1 l1 k1) (h2:SqI t2 s.heap i2 l2 k2) (hl1:SqO t1 s.heap l1 xs) (hl2:SqO t2 s.heap l2 ys) (hx:xs[k1]?=some x) (hy:ys[k2]?=some y)
  (hQ:∀h',IsZip h' z TI TO (rawInt s.heap.objs.size)→IsPair h' TO x y→SqI t1 h' i1 l1 (k1+1)→SqI t2 h' i2 l2 (k2+1)→IsPair h' s.heap.objs.size x y→h'.objs.size=s.heap.objs.size+1 →
   (∀c o,c≠z→c≠TO→c≠i1→c≠i2→s.heap.get? c=some o→h'.get? c=some o)→Q (some (.ref s.heap.objs.size)) { s with heap:=h'}) :
  wpAny (model prog w) A (pyNext (.ref z)) Q E s:=by
 have hT:s.TypeIs (.ref z) "zip":=⟨_,hz,rfl⟩
 unfold pyNext
 exact wpAny_bind (wpAny_attempt (wpAny_callSpecial?_slot (name:=Str.ofString "__next__") hT F.slot_zip_next
  (wpAny_call_entry F.slot_zip_next hT F.entry_zip_next (o3 D hz hTI hTO h1 h2 hl1 hl2 hx hy fun h' q1 q2 q3 q4 q5 q6 q7=>wpAny_pure (hQ h' q1 q2 q3 q4 q5 q6 q7)) (F.args_zip_next_1 _))))
theorem zip_end {a b:Value} {Q:Option Value→Shared→Prop} (hh:A.handled=none) (D:ZipApart z TI TO i1 i2 l1 l2)
  (hz:IsZip s.heap z TI TO .none) (hTI:IsPair s.heap TI (.ref i1) (.ref i2)) (hTO:IsPair s.heap TO a b)
  (h1:SqI t1 s.heap i1 l1 k1) (h2:SqI t2 s.heap i2 l2 k2) (hl1:SqO t1 s.heap l1 xs) (hl2:SqO t2 s.heap l2 ys) (hend:xs[k1]?=none∨ys[k2]?=none)
  (hQ:∀h',(∀c o,c≠z→c≠TO→c≠i1→c≠i2→s.heap.get? c=some o→h'.get? c=some o)→Q none { s with heap:=h'}):wpAny (model prog w) A (pyNext (.ref z)) Q E s:=by
 have hT:s.TypeIs (.ref z) "zip":=⟨_,hz,rfl⟩
 unfold pyNext
 refine wpAny_bind (wpAny_attempt (wpAny_callSpecial?_slot (name:=Str.ofString "__next__") hT F.slot_zip_next
  (wpAny_call_entry F.slot_zip_next hT F.entry_zip_next (qz hh D hz hTI hTO h1 h2 hl1 hl2 hend fun h' e hk he=>?_) (F.args_zip_next_1 _))))
 obtain ⟨o,ho,hc⟩:=he
 refine wpAny_bind (wpAny_isInstance (T:="StopIteration") (b:=true) ⟨o,ho,hc⟩ isSubtype_stop ?_)
 exact wpAny_pure (hQ _ hk)
end
abbrev zA (t1:Bool) (h:Heap) (l1:Addr):Heap:=h.push { cls:=.type (itN t1),data:=.fields #[.ref l1,.int 0 0]}
abbrev zB (t1 t2:Bool) (h:Heap) (l1 l2:Addr):Heap:=(zA t1 h l1).push { cls:=.type (itN t2),data:=.fields #[.ref l2,.int 0 0]}
abbrev zC (t1 t2:Bool) (h:Heap) (l1 l2:Addr):Heap:=(zB t1 t2 h l1 l2).push { cls:=.type "tuple",data:=.seq #[.ref h.objs.size,.ref (zA t1 h l1).objs.size]}
abbrev zD (t1 t2:Bool) (h:Heap) (l1 l2:Addr):Heap:=(zC t1 t2 h l1 l2).push { cls:=.type "tuple",data:=.seq #[.none,.none]}
abbrev zE (t1 t2:Bool) (h:Heap) (l1 l2:Addr):Heap:=(zD t1 t2 h l1 l2).push { cls:=.type "zip",data:=.fields #[.none,.bool false,.bool false,.ref (zB t1 t2 h l1 l2).objs.size,.ref (zC t1 t2 h l1 l2).objs.size]}
theorem zip_new (t1 t2:Bool) (l1 l2:Addr) (xs ys:Array Value) :
  Meets (Builtin.«zip.__new__» ⟨[.type "zip",.ref l1,.ref l2],[]⟩) (fun _ R s=>SqO t1 s.heap l1 xs∧SqO t2 s.heap l2 ys∧R (.ok (.ret (.ref (zD t1 t2 s.heap l1 l2).objs.size))) { s with heap:=zE t1 t2 s.heap l1 l2}) :=
 .of_wp fun prog w A R s h=>by
  obtain ⟨hp,g,d,tk,os⟩:=s;obtain ⟨hl1,hl2,h⟩:=h
  have hsub:=sub_zip
  have hL1:SqO t1 (Shared.heap ⟨hp,g,d,tk,os⟩) l1 xs:=hl1
  have hL2:SqO t2 (Shared.heap ⟨hp.push { cls:=.type (itN t1),data:=.fields #[.ref l1,.int 0 0]},g,d,tk,os⟩) l2 ys:=hl2.at' fun o e=>Heap.get?_push_of_some _ e
  wp_walk using mO hL1,mO hL2
  exact ⟨_,rfl,h⟩
section
variable {prog:Program} {w:World} {A:Around} {E:Value→Shared→Prop} {s:Shared}
theorem qK {t1 t2:Bool} {l1 l2:Addr} {xs ys:Array Value} {Q:Value→Shared→Prop} (hl1:SqO t1 s.heap l1 xs) (hl2:SqO t2 s.heap l2 ys)
  (h:∀h',IsZip h' (s.heap.objs.size+4) (s.heap.objs.size+2) (s.heap.objs.size+3) .none→IsPair h' (s.heap.objs.size+2) (.ref s.heap.objs.size) (.ref (s.heap.objs.size+1)) →
   IsPair h' (s.heap.objs.size+3) .none .none→SqI t1 h' s.heap.objs.size l1 0→SqI t2 h' (s.heap.objs.size+1) l2 0→h'.objs.size=s.heap.objs.size+5 →
   (∀c o,s.heap.get? c=some o→h'.get? c=some o)→Q (.ref (s.heap.objs.size+4)) { s with heap:=h'}) :
  wpAny (model prog w) A (call (.type "zip") [.ref l1,.ref l2]) Q E s:=by
 refine callType_new F.called_zip (by decide) (F.typeCall_zip_2 _ _) (F.newCall_zip_2 _ _) (fun obj=>F.args_object_init_3 obj _ _) F.entry_zip_new (zip_new t1 t2 l1 l2 xs ys) ⟨hl1,hl2,?_⟩
 have z1:(zA t1 s.heap l1).objs.size=s.heap.objs.size+1:=Heap.size_push ..
 have z2:(zB t1 t2 s.heap l1 l2).objs.size=s.heap.objs.size+2:=by rw[Heap.size_push,z1]
 have z3:(zC t1 t2 s.heap l1 l2).objs.size=s.heap.objs.size+3:=by rw[Heap.size_push,z2]
 have z4:(zD t1 t2 s.heap l1 l2).objs.size=s.heap.objs.size+4:=by rw[Heap.size_push,z3]
 have z5:(zE t1 t2 s.heap l1 l2).objs.size=s.heap.objs.size+5:=by rw[Heap.size_push,z4]
 have g5:(zE t1 t2 s.heap l1 l2).get? (zD t1 t2 s.heap l1 l2).objs.size=some _:=Heap.get?_push_size _ rfl
 have g4:(zE t1 t2 s.heap l1 l2).get? (zC t1 t2 s.heap l1 l2).objs.size=some _:=Heap.get?_push_of_some _ (Heap.get?_push_size _ rfl)
 have g3:(zE t1 t2 s.heap l1 l2).get? (zB t1 t2 s.heap l1 l2).objs.size=some _:=Heap.get?_push_of_some _ (Heap.get?_push_of_some _ (Heap.get?_push_size _ rfl))
 have g2:(zE t1 t2 s.heap l1 l2).get? (zA t1 s.heap l1).objs.size=some _:=Heap.get?_push_of_some _ (Heap.get?_push_of_some _ (Heap.get?_push_of_some _ (Heap.get?_push_size _ rfl)))
 have g1:(zE t1 t2 s.heap l1 l2).get? s.heap.objs.size=some _:=Heap.get?_push_of_some _ (Heap.get?_push_of_some _ (Heap.get?_push_of_some _ (Heap.get?_push_of_some _ (Heap.get?_push_size _ rfl))))
 show _∧_
 rw[z2,z3,z4] at g5
 rw[z1,z2] at g3
 rw[z3] at g4
 rw[z1] at g2
 rw[z4]
 exact ⟨⟨_,g5,rfl⟩,h _ g5 g3 g4 ⟨_,g1,rfl,rfl⟩ ⟨_,g2,rfl,rfl⟩ z5 fun c o x =>
  Heap.get?_push_of_some _ (Heap.get?_push_of_some _ (Heap.get?_push_of_some _ (Heap.get?_push_of_some _ (Heap.get?_push_of_some _ x))))⟩
end
end SeqT
namespace MM
open PySem PySem.Spec PyProof.Rows L2 SeqT
def SqB (tp:Bool) (K:PySem.W.Frag) (H:Hp) (a:Addr) (ys:List V):Prop:=match tp with
 | true=>SqT K H a ys
 | false=>SqL K H a ys
section
variable {X:Cx} {pins:List (Addr × Obj)} {σ:L2.St} {H:Hp} {s:Shared}
theorem fQ (I:Inv X pins σ H s) {tp:Bool} {a:Addr} {ys:List V} (h:SqB tp X.K H a ys):∃its:List Value,Vals ys its∧SqO tp s.heap a its.toArray∧ys.length≤sizeLine:=by
 cases tp with
 | true =>
  obtain ⟨its,rv,pl,hz⟩:=I.tuple h
  exact ⟨its,rv,pl,hz⟩
 | false =>
  obtain ⟨its,rv,pl,hz⟩:=I.list h
  exact ⟨its,rv,pl.isList,hz⟩
theorem mM (I:Inv X pins σ H s) {tp:Bool} {a:Addr} {xs ys:List V} (h:SqB tp X.K H a xs) (h':SqB tp X.K H a ys):xs=ys:=by
 cases tp with
 | true=>exact I.tuple_inj h h'
 | false=>exact I.list_inj h h'
theorem jj (I:Inv X pins σ H s) {h':Heap} {t':Nat} {ch:List Addr} (hf:∀b∈ch,FpOk X pins H b) (k:∀b o,b∉ch→s.heap.get? b=some o→h'.get? b=some o) :
  Inv X pins σ H { s with heap:=h',toks:=t'}:=by
 have nit:∀b u,H b=some u→b∉ch:=fun b u e z=>by rw[(hf b z).1] at e;cases e
 refine I.step (g':=s.gens) (d':=s.drawn) (ch:=ch) (fun b hb=>?_) (fun b o _ _ hc e _=>k b o hc e) (fun b o _ _ hc e _=>⟨o.slots,k b o hc e⟩) (fun _ _ _ _ n=>n)
  (fun b o hc e=>⟨o,k b o hc e⟩) (fun _ _ e=>e) (fun _ _ _ e=>e) (fun b ps e=>⟨#[],by rw[e];simp⟩) (fun m hm=>?_) (fun b u e=>?_) I.bare
 ·obtain ⟨f0,f1,f2,f3,f4,f5⟩:=hf b hb
  exact ⟨f3,f1,f4,f5⟩
 ·obtain ⟨o,es,ep,ho,r⟩:=hm
  exact ⟨o,es,ep,k _ o (fun z=>(hf _ z).2.1 rfl) ho,r⟩
 ·refine (I.hok b u e).stay (fun c v hc q=>k c v ?_ q) (fun _ q=>q) fun _ _ q=>q
  rcases hc with z|z
  ·rw[z];exact nit b u e
  ·exact nit c _ z
theorem inv_tup (I:Inv X pins σ H s) {h':Heap} {t':Nat} {ch:List Addr} {ys:List V} {its:List Value} (hf:∀b∈ch,FpOk X pins H b) (rv:Vals ys its) (hz:ys.length≤sizeLine) (hch:s.heap.objs.size∉ch)
  (ht:h'.get? s.heap.objs.size=some { cls:=.type "tuple",data:=.seq its.toArray}) (k:∀b o,b∉ch→s.heap.get? b=some o→h'.get? b=some o) :
  Inv X pins σ (upd H s.heap.objs.size (.tup ys)) { s with heap:=h',toks:=t'}∧(∀b∈ch,(upd H s.heap.objs.size (.tup ys)) b=none)∧H s.heap.objs.size=none:=by
 have hfr:=I.hok.fresh (Nat.le_refl s.heap.objs.size)
 have hne:∀b∈ch,b≠s.heap.objs.size:=fun b hb z=>hch (by rw[←z];exact hb)
 have I1:Inv X pins σ (upd H s.heap.objs.size (.tup ys)) { s with heap:=s.heap.push { cls:=.type "tuple",data:=.seq its.toArray},toks:=s.toks} :=
  I.laid (o:=.tup ys) (fun b u q=>Heap.get?_push_of_some _ q) (Nat.le_refl _) ⟨hz,its,rv,_,Heap.get?_push_size _ rfl,rfl,⟨_,rfl⟩,rfl⟩
 have hup:∀b∈ch,(upd H s.heap.objs.size (.tup ys)) b=none:=fun b hb=>by rw[aV (hne b hb)];exact (hf b hb).1
 refine ⟨?_,hup,hfr⟩
 refine jj (t':=t') I1 (ch:=ch) (fun b hb=>⟨hup b hb,(hf b hb).2⟩) fun b o hb e=>?_
 by_cases z:b=s.heap.objs.size
 ·subst z
  have e':(s.heap.push { cls:=.type "tuple",data:=.seq its.toArray}).get? s.heap.objs.size=some { cls:=.type "tuple",data:=.seq its.toArray}:=Heap.get?_push_size _ rfl
  rw[show ({ s with heap:=s.heap.push { cls:=.type "tuple",data:=.seq its.toArray},toks:=s.toks}:Shared).heap=s.heap.push { cls:=.type "tuple",data:=.seq its.toArray} from rfl,e'] at e
  cases e
  exact ht
 ·have e':(s.heap.push { cls:=.type "tuple",data:=.seq its.toArray}).get? b=some o:=e
  rw[Heap.get?_push_ne _ _ _ z] at e'
  exact k b o hb e'
end
def Itz (K:PySem.W.Frag) (t1 t2:Bool) (a b:Addr):It :=
 ⟨fun i H=>∃xs ys x y,SqB t1 K H a xs∧SqB t2 K H b ys∧xs[i]?=some x∧ys[i]?=some y,
   fun i H v H'=>∃p x y,H p=none∧v=.ref p∧H'=upd H p (.tup [x,y])∧(∀xs,SqB t1 K H a xs→xs[i]?=some x)∧∀ys,SqB t2 K H b ys→ys[i]?=some y,
   fun i H=>∃xs ys,SqB t1 K H a xs∧SqB t2 K H b ys∧(xs.length≤i∨ys.length≤i)⟩
theorem qC {P:Program} {w:World} {K:PySem.W.Frag} {elts:List Expr} {x1:Nat} {pos:Pos} (t1 t2:Bool) (a b z TI TO i1 i2:Addr) (D:ZipApart z TI TO i1 i2 a b) :
  Turn P w K (.Tuple elts x1 pos) (Itz K t1 t2 a b) [z,TI,TO,i1,i2] z (fun i h=>IsZip h z TI TO .none∧IsPair h TI (.ref i1) (.ref i2)∧(∃u v,IsPair h TO u v)∧SqI t1 h i1 a i∧SqI t2 h i2 b i) where
 mem:=by simp
 obj:=fun i h st c hc=>by
  obtain ⟨hz,hTI,⟨u,v,hTO⟩,⟨o1,e1,_,d1⟩,⟨o2,e2,_,d2⟩⟩:=st
  have:c=z∨c=TI∨c=TO∨c=i1∨c=i2:=by simpa using hc
  rcases this with rfl|rfl|rfl|rfl|rfl
  ·exact ⟨_,hz,fun v z=>nomatch z⟩
  ·exact ⟨_,hTI,fun v z=>nomatch z⟩
  ·exact ⟨_,hTO,fun v z=>nomatch z⟩
  ·exact ⟨o1,e1,fun v z=>by rw[d1] at z;cases z⟩
  ·exact ⟨o2,e2,fun v z=>by rw[d2] at z;cases z⟩
 keep:=fun i h h' st k=>let ⟨hz,hTI,⟨u,v,hTO⟩,h1,h2⟩:=st
  ⟨k z (by simp) _ hz,k TI (by simp) _ hTI,⟨u,v,k TO (by simp) _ hTO⟩,h1.at' fun o q=>k i1 (by simp) o q,h2.at' fun o q=>k i2 (by simp) o q⟩
 item:=by
  intro X hP hw hK hc i pins s σ H E I hf st hg
  subst hP hw hK
  obtain ⟨hz,hTI,⟨u,v,hTO⟩,h1,h2⟩:=st
  obtain ⟨xs,ys,x,y,hq1,hq2,hx,hy⟩:=hg
  obtain ⟨its1,rv1,so1,hz1⟩:=fQ I hq1
  obtain ⟨its2,rv2,so2,hz2⟩:=fQ I hq2
  obtain ⟨u1,hu1,ru1⟩:=rv1.get hx
  obtain ⟨u2,hu2,ru2⟩:=rv2.get hy
  refine rH D hz hTI hTO h1 h2 so1 so2 (x:=u1) (y:=u2) (by simpa using hu1) (by simpa using hu2) fun ha hza hTOa h1a h2a hTa hsa hka=>⟨_,rfl,?_⟩
  refine wpAny_letOwnedTupleGo_zip (s:={ s with heap:=ha}) hza fun hb hzb sb=>?_
  replace sb:Heap.SameBut z ha hb:=sb
  have l1:z<s.heap.objs.size:=Heap.lt_size hz
  have l2:TI<s.heap.objs.size:=Heap.lt_size hTI
  have l3:TO<s.heap.objs.size:=Heap.lt_size hTO
  have l4:i1<s.heap.objs.size:=h1.lt
  have l5:i2<s.heap.objs.size:=h2.lt
  have up:∀c o,c≠z→ha.get? c=some o→hb.get? c=some o:=fun c o hc q=>(sb.2 c hc).trans q
  obtain ⟨I2,hup,hfr⟩:=inv_tup (t':=s.toks) (h':=hb) I (ch:=[z,TI,TO,i1,i2]) (ys:=[x,y]) (its:=[u1,u2]) hf (.cons ru1 (.cons ru2 .nil)) (by rw[sizeLine_eq];show 2≤_;decide)
   (by simp only[List.mem_cons,List.not_mem_nil,or_false,not_or];exact ⟨Nat.ne_of_gt l1,Nat.ne_of_gt l2,Nat.ne_of_gt l3,Nat.ne_of_gt l4,Nat.ne_of_gt l5⟩)
   (up _ _ (Nat.ne_of_gt l1) hTa)
   (fun c o hc q=>up c o (fun e=>hc (by simp[e])) (hka c o (fun e=>hc (by simp[e])) (fun e=>hc (by simp[e])) (fun e=>hc (by simp[e])) (fun e=>hc (by simp[e])) q))
  refine ⟨.ref s.heap.objs.size,_,I2,rfl,⟨_,x,y,hfr,rfl,rfl,fun zs hzs=>by rw[mM I hzs hq1];exact hx,fun zs hzs=>by rw[mM I hzs hq2];exact hy⟩,⟨hzb,?_,⟨_,_,up _ _ D.TOz hTOa⟩,h1a.at' fun o q=>up _ o D.i1z q,h2a.at' fun o q=>up _ o D.i2z q⟩,hup⟩
  exact up _ _ D.TIz (hka _ _ D.TIz D.TITO D.TIi1 D.TIi2 hTI)
 done:=by
  intro X hP hw hK hc i pins s σ H E I hf st hg
  subst hP hw hK
  obtain ⟨hz,hTI,⟨u,v,hTO⟩,h1,h2⟩:=st
  obtain ⟨xs,ys,hq1,hq2,hend⟩:=hg
  obtain ⟨its1,rv1,so1,hz1⟩:=fQ I hq1
  obtain ⟨its2,rv2,so2,hz2⟩:=fQ I hq2
  have e1:=rv1.length
  have e2:=rv2.length
  have hT:s.TypeIs (.ref z) "zip":=⟨_,hz,rfl⟩
  have hin:(X.A.in1).handled=none:=by have:=I.ok.hd hc;simpa using this
  refine zip_end (I.ok.hd hc) D hz hTI hTO h1 h2 so1 so2 ?_ fun h' hk=>⟨rfl,jj (t':=s.toks) I hf fun c o hc q=>hk c o (fun e=>hc (by simp[e])) (fun e=>hc (by simp[e])) (fun e=>hc (by simp[e])) (fun e=>hc (by simp[e])) q⟩
  rcases hend with q|q
  ·exact .inl (by simp;omega)
  ·exact .inr (by simp;omega)
 self:=fun A i s Q E st h=>wpAny_pyIter_zip st.1 h
noncomputable def cp (v:PV) (h:MH):Option (Bool × List PV × List (Nat × List PV)):=match v with
 | .loc n=>(match h[n]? with
  | some (.lst xs)=>some (false,xs,[(n,xs)])
  | _=>none)
 | .frl xs=>some (false,xs,[])
 | .tup xs=>some (true,xs,[])
 | _=>none
theorem pg {X:Cx} {ρ:List Addr} {H:Hp} {h:MH} {x:PV} {y:V} {tp:Bool} {xs:List PV} {gd:List (Nat × List PV)} (rh:RH X.K X.mg ρ H h) (r:RP X.K ρ H x y) (e:cp x h=some (tp,xs,gd)) :
  ∃a,y=.ref a∧(∃ys,SqB tp X.K H a ys)∧∀ρ' H' h',Le ρ H ρ' H'→RH X.K X.mg ρ' H' h'→(∀p∈gd,h'[p.1]?=some (.lst p.2))→∃ys,SqB tp X.K H' a ys∧RPs X.K ρ' H' xs ys:=by
 cases r with
 | frl s r=>cases e;exact ⟨_,rfl,⟨_,s.sq⟩,fun ρ' H' h' l _ _=>⟨_,(l.sqf s).sq,r.le l⟩⟩
 | tup s r=>cases e;exact ⟨_,rfl,⟨_,s⟩,fun ρ' H' h' l _ _=>⟨_,l.sqt s,r.le l⟩⟩
 | @loc n a en =>
  obtain ⟨o,eo,ro⟩:=rh.obj en
  unfold cp at e
  dsimp only at e
  rw[eo] at e
  cases o with
  | lst zs =>
   cases e
   obtain ⟨ys,ey,ry⟩:=ro
   refine ⟨a,rfl,⟨ys,SqL.of ey⟩,fun ρ' H' h' l rh' ok=>?_⟩
   obtain ⟨ys',ey',ry'⟩:=rh'.at' n a _ (l.get en) (ok (n,xs) (by simp))
   exact ⟨ys',SqL.of ey',ry'⟩
  | _=>cases e
 | _=>cases e
def zipL (xs ys:List PV):List PV:=(xs.zip ys).map fun p=>.tup [p.1,p.2]
theorem lH (xs ys:List PV):(zipL xs ys).length=min xs.length ys.length:=by simp[zipL]
theorem qF {xs ys:List PV} {i:Nat} {x y:PV} (h1:xs[i]?=some x) (h2:ys[i]?=some y):(zipL xs ys)[i]?=some (.tup [x,y]):=by
 unfold zipL
 rw[List.getElem?_map]
 have:(xs.zip ys)[i]?=some (x,y):=by rw[List.getElem?_zip_eq_some];exact ⟨h1,h2⟩
 rw[this];rfl
noncomputable def mItZ (m:Mx (List PV)):Mx MIt:=fun σ h=>(m σ h).bind fun vs h1=>match vs with
 | [x,y]=>(match cp x h1,cp y h1 with
  | some (_,xs,g1),some (_,ys,g2)=>.ok ⟨zipL xs ys,g1++g2⟩ h1
  | _,_=>.bad)
 | _=>.bad
section
variable {X:Cx} {N W G:List Str} {k:Nat}
theorem o4 (g:Good X N W G k) {elts:List Expr} {x1:Nat} {tp:Pos} {a b:Expr} {m:Mx (List PV)} {p pos:Pos} {j:Nat} (hj:G[j]?=some "zip") (hm:X.mg "zip"=none) (ha:MA X [a,b] m)
  (hs:starEach [a,b] X.env=(false,eval a X.env)::starEach [b] X.env:=by rfl) (hpl:(backTo pos (starEach [b] X.env)).any (·.1)=false:=by rfl):MI X (.Tuple elts x1 tp) (.Call (.Name "zip" p) [a,b] [] pos) (mItZ m):=by
 have d:=g.dbg _ (List.mem_append_right _ (aL hj))
 intro pins s σ H R I ⟨ρ,σp,h,rs,rh,q⟩
 refine wpAny_Call_Name_kw (gQ I (g.gl _ (aL hj)) hm PyProof.Rows.Boot.«zip» ?_ d.2.2 d.1)
 refine PyProof.Rows.callWith_type1 (thn (ha pos pins s σ H (fun vs H1=>∃ρ1 h1 xs,Le ρ H ρ1 H1∧RH X.K X.mg ρ1 H1 h1∧RPs X.K ρ1 H1 xs vs∧Ful X (JRel X) σp ρ1 H1 ((match xs with
   | [x,y]=>(match cp x h1,cp y h1 with | some (_,xs,g1),some (_,ys,g2)=>.ok ⟨zipL xs ys,g1++g2⟩ h1 | _,_=>.bad)
   | _=>.bad:Out MIt)) R) I ⟨ρ,σp,h,rs,rh,Ful.bind q fun ρ1 H1 v v' h1 _ l1 rh1 rv q1=>⟨ρ1,h1,v,l1,rh1,rv,q1⟩⟩) fun us s1 ⟨vs,H1,I1,r1,ρ1,h1,xs,l1,rh1,rv,q1⟩=>?_) hs hpl
 cases rv with
 | nil=>exact q1.elim
 | @cons y y' ys ys' ry t1 =>
  cases t1 with
  | nil=>exact q1.elim
  | @cons v v' vs2 vs2' rv t2 =>
   cases t2 with
   | cons _ _=>exact q1.elim
   | nil =>
    dsimp only at q1
    cases hsq:cp y h1 with
    | none=>rw[hsq] at q1;exact q1.elim
    | some z =>
     obtain ⟨b1,zs1,gd1⟩:=z
     cases hsq2:cp v h1 with
     | none=>rw[hsq,hsq2] at q1;exact q1.elim
     | some z2 =>
      obtain ⟨b2,zs2,gd2⟩:=z2
      rw[hsq,hsq2] at q1
      obtain ⟨ad1,rfl,⟨ws1,hws1⟩,rel1⟩:=pg rh1 ry hsq
      obtain ⟨ad2,rfl,⟨ws2,hws2⟩,rel2⟩:=pg rh1 rv hsq2
      cases r1 with
      | @cons _ u1 _ us1 ru1 tu1 =>
       cases tu1 with
       | @cons _ u2 _ us2 ru2 tu2 =>
        cases tu2
        cases ru1
        cases ru2
        obtain ⟨its1,rvv1,so1,hz1⟩:=fQ I1 hws1
        obtain ⟨its2,rvv2,so2,hz2⟩:=fQ I1 hws2
        refine qK so1 so2 fun h' hz hTI hTO hi1 hi2 hsz hk=>?_
        refine wpAny_pyIter_zip hz ?_
        have I2:Inv X pins σ H1 { s1 with heap:=h',toks:=s1.toks}:=I1.kept hk
        obtain ⟨oa1,hoa1,_,_⟩:=id so1
        obtain ⟨oa2,hoa2,_,_⟩:=id so2
        have lt1:ad1<s1.heap.objs.size:=Heap.lt_size hoa1
        have lt2:ad2<s1.heap.objs.size:=Heap.lt_size hoa2
        have sN:∀(n:Nat),s1.heap.objs.size≤s1.heap.objs.size+n:=fun n=>Nat.le_add_right _ _
        have ap:∀(c:Addr) (n:Nat),c<s1.heap.objs.size→c≠s1.heap.objs.size+n:=fun c n hc=>Nat.ne_of_lt (Nat.lt_of_lt_of_le hc (sN n))
        have ne':∀(m n:Nat),m≠n→s1.heap.objs.size+m≠s1.heap.objs.size+n:=fun m n hmn e=>hmn (Nat.add_left_cancel e)
        have D:ZipApart (s1.heap.objs.size+4) (s1.heap.objs.size+2) (s1.heap.objs.size+3) s1.heap.objs.size (s1.heap.objs.size+1) ad1 ad2 :=
         ⟨ne' 2 4 (by decide),ne' 3 4 (by decide),ne' 0 4 (by decide),ne' 1 4 (by decide),ne' 2 3 (by decide),ne' 2 0 (by decide),ne' 2 1 (by decide),ne' 3 0 (by decide),ne' 3 1 (by decide),ne' 0 1 (by decide),
          ap ad1 4 lt1,ap ad1 3 lt1,ap ad1 0 lt1,ap ad1 1 lt1,ap ad2 4 lt2,ap ad2 3 lt2,ap ad2 0 lt2,ap ad2 1 lt2⟩
        refine ⟨s1.heap.objs.size+4,_,_,_,H1,rfl,I2,qC b1 b2 ad1 ad2 _ _ _ _ _ D,⟨hz,hTI,⟨_,_,hTO⟩,hi1,hi2⟩,fun c hc=>?_,?_⟩
        ·have F:∀n:Nat,FpOk X pins H1 (s1.heap.objs.size+n):=fun n=>Inv.fpOk I1 (H':=H1) (sN n) (I1.hok.fresh (sN n))
         have:c=s1.heap.objs.size+4∨c=s1.heap.objs.size+2∨c=s1.heap.objs.size+3∨c=s1.heap.objs.size∨c=s1.heap.objs.size+1:=by simpa using hc
         rcases this with rfl|rfl|rfl|rfl|rfl
         ·exact F 4
         ·exact F 2
         ·exact F 3
         ·exact F 0
         ·exact F 1
        ·refine q1 ρ1 H1 _ (Le.refl _ _) rh1 ?_
         intro ρ' H' h2 i l rh' ok
         obtain ⟨ws1',hws1',rws1⟩:=rel1 ρ' H' h2 l rh' (fun p hp=>ok p (List.mem_append_left _ hp))
         obtain ⟨ws2',hws2',rws2⟩:=rel2 ρ' H' h2 l rh' (fun p hp=>ok p (List.mem_append_right _ hp))
         refine ⟨fun hi'=>?_,fun hi'=>⟨ws1',ws2',hws1',hws2',?_⟩⟩
         ·rw[lH] at hi'
          have hx1:zs1[i]?=some (zs1[i]'(by omega)):=List.getElem?_eq_getElem (by omega)
          have hx2:zs2[i]?=some (zs2[i]'(by omega)):=List.getElem?_eq_getElem (by omega)
          obtain ⟨w1,ew1,rw1⟩:=rws1.get hx1
          obtain ⟨w2,ew2,rw2⟩:=rws2.get hx2
          refine ⟨⟨ws1',ws2',w1,w2,hws1',hws2',ew1,ew2⟩,fun x' H3 ⟨pp,y1,y2,hp,e1,e2,hall1,hall2⟩=>?_⟩
          subst e1;subst e2
          have ey1:y1=w1:=by
           have:=hall1 ws1' hws1'
           rw[ew1] at this;exact (Option.some.inj this).symm
          have ey2:y2=w2:=by
           have:=hall2 ws2' hws2'
           rw[ew2] at this;exact (Option.some.inj this).symm
          subst ey1;subst ey2
          obtain ⟨rh3,l3⟩:=rh'.tup hp [y1,y2]
          exact ⟨ρ',_,l3,rh3,qF hx1 hx2,.tup (SqT.of cc) (.cons (rw1.le l3) (.cons (rw2.le l3) .nil))⟩
         ·rw[lH] at hi'
          have a1:=rws1.length
          have a2:=rws2.length
          omega
end
end MM
namespace MM
open PySem PySem.Spec PyProof.Rows L2 SetT SortT
section
variable {X:Cx} {N W G:List Str} {k:Nat}
end
end MM
namespace MM
open PySem PySem.Spec PyProof.Rows L2
noncomputable local instance (priority:=1) cdec26 (p:Prop):Decidable p:=Classical.propDecidable p
theorem mS {it:MIt} {g:Mg} {b:Mst} (I:Nat→PSt→MH→Prop):∀(xs:List PV) (j:Nat) (σ:PSt) (h:MH),I j σ h→(∀j σ h,I j σ h→it.ok h) →
  (∀m σ h x,I (j+m) σ h→xs[m]?=some x→∃σ1 h1 σ' h',g x σ h=.nx σ1 h1∧b σ1 h1=.nx σ' h'∧I (j+m+1) σ' h') →
  ∃σ' h',mGo it g b xs σ h=.nx σ' h'∧I (j+xs.length) σ' h'
 | [],j,σ,h,hI,hok,_=>⟨σ,h,mGo_nil (hok _ _ _ hI),hI⟩
 | x::r,j,σ,h,hI,hok,st=>by
  obtain ⟨σ1,h1,σ2,h2,e1,e2,I1⟩:=st 0 σ h x hI rfl
  obtain ⟨σ3,h3,e3,I3⟩:=mS I r (j+1) σ2 h2 I1 hok fun m σ' h' y q z=>by
   have:=st (m+1) σ' h' y (by rw[show j+(m+1)=j+1+m by omega];exact q) (by simpa using z)
   rw[show j+(m+1)+1=j+1+m+1 by omega] at this
   exact this
  refine ⟨σ3,h3,?_,by rw[List.length_cons,show j+(r.length+1)=j+1+r.length by omega];exact I3⟩
  rw[rY (hok _ _ _ hI) e1,e2];exact e3
end MM
namespace MM
open PySem PySem.Spec PyProof.Rows L2 SetT SortT
section
variable {h:MH} {i:Int} {xs:List PV} {n:Nat}
end
theorem itR1' {m:Mx (List PV)} {σ:PSt} {h h1:MH} {j:Int} (em:m σ h=.ok [.int j] h1) (z:-(2 ^ 62)≤j∧j<2 ^ 62):cb m σ h=.ok ⟨br 0 j.toNat,[]⟩ h1:=by
 rw[rq,em]
 simp only[Out.bind_ok]
 rw[if_pos z]
theorem itR1 {m:Mx (List PV)} {σ:PSt} {h h1:MH} {n:Nat} (em:m σ h=.ok [.int (n:Int)] h1) (hn:n≤100000):cb m σ h=.ok ⟨br 0 n,[]⟩ h1:=by
 have z1:-(2 ^ 62)≤(n:Int):=Int.le_trans (by decide) (Int.natCast_nonneg n)
 have z2:(n:Int)<2 ^ 62:=Int.lt_of_le_of_lt (Int.ofNat_le.mpr hn) (by decide)
 have:=itR1' em ⟨z1,z2⟩
 rwa [Int.toNat_natCast] at this
theorem li:∀(k:List Int),PyData.canLayAll0 (k.map .int)=true∧PyData.depthAll (k.map .int)≤1
 | []=>⟨rfl,by simp[PyData.depthAll]⟩
 | i::k=>by
  obtain ⟨a,b⟩:=li k
  constructor
  ·simp[PyData.canLayAll0,PyData.canLay0,a]
  ·simp only[List.map_cons,PyData.depthAll,PyData.depth];omega
end MM
namespace MM
open PySem PySem.Spec PyProof.Rows L2
noncomputable local instance (priority:=1) cdec28 (p:Prop):Decidable p:=Classical.propDecidable p
section
variable {X:Cx} {N W G:List Str} {k:Nat}
end
end MM
namespace MM
open PySem PySem.Spec PyProof.Rows L2 PySem.W
noncomputable local instance (priority:=1) cdec29 (p:Prop):Decidable p:=Classical.propDecidable p
section
variable {X:Cx}
end
end MM
namespace MM
open PySem PySem.Spec PyProof.Rows L2
section
variable {X:Cx}
variable {o e:Expr} {es:List Expr} {name:Str} {apos cpos:Pos} {id:String} {f:Str→List PV→MH→Out PV} {m:Mx PV} {ma:Mx (List PV)}
end
end MM
namespace DcT
open PySem PyProof.Rows
section
variable {prog:Program} {w:World} {A:Around} {E:Value→Shared→Prop} {s:Shared}
theorem nZ:typeLookup (.type "tuple") "keys"=pure none:=by rw[typeLookup_type,builtinLookup_eq_fast];kernel_rfl
theorem pG {a:Addr} {o:Obj} {xs:Array Value} {k:Nat} {Q:Option Value→Shared→Prop} (hx:s.heap.get? a=some o) (hc:o.cls=.type "tuple") (hdat:o.data=.seq xs k) (hd:o.dict=none) (hA:A.handled=none)
  (h:∀h' tk e,Heap.NewExcOf s.heap h' e "AttributeError"→Q none { s with heap:=h',toks:=tk}):wpAny (model prog w) A (getAttr? (.ref a) "keys") Q E s:=by
 obtain ⟨c,dct,dat,sl⟩:=o
 simp only at hc hdat hd
 subst hc hdat hd
 obtain ⟨hp,g,d,tk,os⟩:=s
 have hT:∀tk',(⟨hp,g,d,tk',os⟩:Shared).TypeIs (.ref a) "tuple":=fun _=>⟨_,hx,rfl⟩
 have f1:=sub_AttributeError
 have f3:=F.slot_tuple_getattribute.lookup
 have f4:=F.slot_tuple_getattribute.bind (.ref a)
 have f5:=am_tuple_getattr_none
 unfold getAttr? getAttrBy? getAttrBy
 repeat (any_goals (first | assumption | exact hT _ | ((with_reducible show wpAny _ _ (call (Value.builtin "tuple.__getattribute__") _ _) _ _ _);refine call_meets F.slot_tuple_getattribute (hT _) am_entry_tuple_getattribute (F.args_tuple_getattribute_2 _ _) (meets_getattribute_miss_tuple a xs k sl "keys" _ nZ (by decide +kernel) (by decide)) ⟨hx,hA,fun h' tk' e hx'=>?_⟩)|wp_step))
 obtain ⟨t',u',he⟩:=hx'.there
 show wpAny _ _ (getattributeRaised _ _ _ _ _ _ _) _ _ _
 unfold getattributeRaised
 repeat (any_goals (first | assumption | wp_step))
 exact h _ _ _ hx'.of
theorem iG:entryFor table "dict.update.loop"=some Builtin.«dict.update.loop»:=entryFor_of_tree (by kernel_rfl)
theorem dN:plainId "dict.update.loop"=true:=by decide +kernel
def Ext (H0 h:Heap):Prop:=∀b o,H0.get? b=some o→h.get? b=some o
theorem dX {h h':Heap} {d:Addr} {kvs:List (Int × Value)} (T:h.DictOf (intKind prog w) d kvs) (hd:∀o,h.get? d=some o→h'.get? d=some o):h'.DictOf (intKind prog w) d kvs:=by
 obtain ⟨o,es,ep,ho,r⟩:=T
 exact ⟨o,es,ep,hd o ho,r⟩
theorem nS {kvs:List (Int × Value)} {k:Int} {v:Value} (h:k∉kvs.map (·.1)):stored kvs k v=kvs++[(k,v)]:=by
 unfold stored
 rw[if_neg]
 intro z
 rw[List.any_eq_true] at z
 obtain ⟨x,hx,e⟩:=z
 exact h (List.mem_map.mpr ⟨x,hx,by simpa using e⟩)
theorem dloop {R:Result→Shared→Prop} {I:Addr} {fp wr:List Addr} {G:Array GenState→Array GenState→Prop} {n:Nat} {P:Nat→Value→Prop} {St:Nat→Shared→Prop}
  (W:WalksS prog w A.in1 I fp wr G n P St) (d:Addr) (hdf:d∉fp) {H0:Heap} (h0d:H0.get? d=none) (h0w:∀b∈wr,H0.get? b=none) (kvs:List (Int × Value)) (hn:kvs.length=n) (hsz:n≤sizeLine) (nd:(kvs.map (·.1)).Nodup)
  (hval:∀i v kv,P i v→kvs[i]?=some kv→∃a t,v=.ref a∧H0.IsTuple a #[.int kv.1 t,kv.2]) :
  ∀(c i:Nat) (s:Shared) (j:Int) (tj:Tok),n - i=c→i≤n→St i s→Ext H0 s.heap→s.heap.DictOf (intKind prog w) d (kvs.take i) →
   (∀s',Moved (d::wr) G s s'→Ext H0 s'.heap→s'.heap.DictOf (intKind prog w) d kvs→R (.ok (.ret .none)) s') →
   codeAny (model prog w) A (.builtin "dict.update.loop" ⟨[.ref d,.ref I,.int j tj,.none],[]⟩) R s:=by
 have hdw:d∉wr:=fun h=>hdf (W.sub _ h)
 have hsub:∀b∈wr,b∈d::wr:=fun b hb=>List.mem_cons_of_mem _ hb
 have extM:∀{s s':Shared},Moved wr G s s'→Ext H0 s.heap→Ext H0 s'.heap:=fun {s s'} hm x b o e =>
  hm.heap b o (fun hb=>by rw[h0w b hb] at e;cases e) (x b o e)
 intro c
 induction c with
 | zero =>
  intro i s j tj hc hi hst hx hT hRR
  have e:i=n:=by omega
  subst e
  refine codeAny_builtin iG ?_
  rw[Around.under_plainId dN _]
  show wpAny _ A.in1 (pyNext (.ref I) >>= _) _ _ s
  refine wpAny_bind (W.done s _ _ hst fun s' hm=>?_)
  show wpAny _ A.in1 (Builtin.Dict.addKeywords d [] >>= fun _=>ret Value.none) _ _ s'
  rw[←hn,List.take_length] at hT
  refine wpAny_bind ?_
  show wpAny _ A.in1 (pure ()) _ _ s'
  exact wpAny_pure (wpAny_pure (hRR s' (hm.mono hsub) (extM hm hx) (dX hT fun o e=>hm.heap d o hdw e)))
 | succ c ih =>
  intro i s j tj hc hi hst hx hT hRR
  have hlt:i<n:=by omega
  refine codeAny_builtin iG ?_
  rw[Around.under_plainId dN _]
  show wpAny _ A.in1 (pyNext (.ref I) >>= _) _ _ s
  refine wpAny_bind (W.item i s _ _ hlt hst fun v s' hP hst' hm=>?_)
  obtain ⟨kv,hk⟩:∃k,kvs[i]?=some k:=⟨_,List.getElem?_eq_getElem (by omega)⟩
  obtain ⟨a,t,rfl,ha⟩:=hval i v kv hP hk
  have hx':=extM hm hx
  have hT':=dX hT (fun o e=>hm.heap d o hdw e)
  obtain ⟨oa,hoa,hca,na,hda⟩:=ha
  have hoa':=hx' a oa hoa
  have tya:s'.TypeIs (.ref a) "tuple":=⟨oa,hoa',hca⟩
  dsimp only
  refine wpAny_bind (wpAny_holding (wpAny_bind ?_))
  have hpair:∀(Q:List Value→Shared→Prop) (E:Value→Shared→Prop),Q [.int kv.1 t,kv.2] s'→wpAny (model prog w) A.in1 (Builtin.Dict.pairItems (.ref a)) Q E s':=fun Q E q=>by
   unfold Builtin.Dict.pairItems
   refine wpAny_bind (wpAny_typeOf tya ?_)
   obtain ⟨hp',g',d',tk',os'⟩:=s'
   obtain ⟨oc,od,oda,osl⟩:=oa
   simp only at hca hda
   subst hca hda
   rw[if_pos (by decide)]
   repeat (any_goals (first | assumption | wp_step))
  refine wpAny_tryCatch (hpair _ _ ?_)
  dsimp only
  have hlen:(kvs.take i).length≤sizeLine:=by rw[List.length_take];omega
  have hnew:kv.1∉(kvs.take i).map (·.1):=fun z=>by
   obtain ⟨x,hx1,ex⟩:=List.mem_map.mp z
   obtain ⟨q,hq⟩:=List.mem_iff_getElem?.mp hx1
   rw[List.getElem?_take] at hq
   split at hq
   ·rename_i hqi
    have e1:(kvs.map (·.1))[q]?=some kv.1:=by rw[List.getElem?_map,hq];simp[ex]
    have e2:(kvs.map (·.1))[i]?=some kv.1:=by rw[List.getElem?_map,hk];rfl
    have l1:q<(kvs.map (·.1)).length:=(List.getElem?_eq_some_iff.mp e1).1
    have:=(List.getElem?_inj l1 nd).mp (e1.trans e2.symm)
    omega
   ·cases hq
  have htk:kvs.take (i+1)=kvs.take i++[kv]:=by rw[List.take_succ,hk];rfl
  refine wpAny_holding (wpAny_dictSet_pairs (knd:=intKind prog w) (k:=kv.1) (intKind_is prog w kv.1 t) hT' (fun h' hD sb=>?_) hlen)
  rw[nS hnew,show kvs.take i++[(kv.1,kv.2)]=kvs.take (i+1) from htk.symm] at hD
  have hx2:Ext H0 h':=fun q o e=>by
   have hq:q≠d:=by rintro rfl;rw[h0d] at e;cases e
   exact (sb.2 q hq).trans (hx' q o e)
  refine wpAny_pure ⟨plainId_quiet dN _,ih (i+1) _ _ _ (by omega) hlt (W.frame _ s' _ _ hst' (Nat.le_succ _) fun b hb o e=>(sb.2 b (fun q:b=d=>hdf (by rw[←q];exact hb))).trans e) hx2 hD fun s'' hm'' hx3 hT4=>?_⟩
  refine hRR s'' (Moved.trans W.gtrans ((hm.mono hsub).then_heap (Nat.le_succ _) fun b o hb e=>?_) hm'') hx3 hT4
  exact (sb.2 b (fun q:b=d=>hb (by rw[q];exact List.mem_cons_self))).trans e
set_option maxHeartbeats 3200000 in
theorem jg {a:Addr} {items:Array Value} {kvs:List (Int × Value)} {Q:Value→Shared→Prop} (hh:A.handled=none) (ha:∃o k,s.heap.get? a=some o∧o.cls=.type "tuple"∧o.data=.seq items k∧o.dict=none)
  (hn:kvs.length=items.size) (hsz:items.size≤sizeLine) (nd:(kvs.map (·.1)).Nodup)
  (hval:∀(i:Nat) v kv,items[i]?=some v→kvs[i]?=some kv→∃b t,v=.ref b∧s.heap.IsTuple b #[.int kv.1 t,kv.2])
  (h:∀(h':Heap) (tk:Nat),h'.DictOf (intKind prog w) s.heap.objs.size kvs→Ext s.heap h'→Q (.ref s.heap.objs.size) { s with heap:=h',toks:=tk}) :
  wpAny (model prog w) A (call (.type "dict") [.ref a]) Q E s:=by
 refine callType_codes (Q₁:=fun obj s₁=>obj=.ref s.heap.objs.size∧s₁={ s with heap:=s.heap.push { cls:=.type "dict",data:=.dict #[]}}) F.kt_called_dict (F.kt_typeCall_dict_1 _) F.entry_dict_init (kt_code_dict_new _ ⟨rfl,rfl⟩) ?_
 rintro obj s₁ ⟨rfl,rfl⟩
 have hnew:(s.heap.push { cls:=.type "dict",data:=.dict #[]}).DictOf (intKind prog w) s.heap.objs.size []:=Heap.DictOf.new s.heap
 refine ⟨hnew.typeIs,F.args_dict_init_2 _ _,?_⟩
 unfold Builtin.«dict.__init__»
 refine wpAny_bind ?_
 unfold Builtin.Dict.selfAndRest
 refine wpAny_bind (wpAny_notOrdered_dict hnew.typeIs ?_)
 show wpAny _ _ (pure (s.heap.objs.size,[Value.ref a])) _ _ _
 refine wpAny_pure ?_
 show wpAny _ _ (Builtin.Dict.updateFrom "dict.__init__" s.heap.objs.size (.ref a) [] .none) _ _ _
 unfold Builtin.Dict.updateFrom
 obtain ⟨oa,ka,hoa,hca,hda,hdi⟩:=ha
 have hoa1:(s.heap.push { cls:=.type "dict",data:=.dict #[]}).get? a=some oa:=Heap.get?_push_of_some _ hoa
 have hh2:A.in1.in1.handled=none:=by simp[hh]
 refine wpAny_bind (wpAny_typeOf (T:="tuple") ⟨oa,hoa1,hca⟩ ?_)
 rw[if_pos (by decide)]
 refine wpAny_bind (pG hoa1 hca hda hdi hh2 fun h1 tk1 e hx=>?_)
 rw[if_pos (by rfl)]
 have x1:Ext s.heap h1:=fun b o eb=>hx.keeps b o (Heap.get?_push_of_some _ eb)
 have hD1:h1.DictOf (intKind prog w) s.heap.objs.size []:=dX hnew fun o eo=>hx.keeps _ o eo
 have ht1:h1.IsTuple a items:=⟨oa,x1 a oa hoa,hca,ka,hda⟩
 refine wpAny_bind (wpAny_rule (wpAny_bind (wpAny_pyIter_tuple (s:={ s with heap:=h1,toks:=tk1}) ht1 ?_)))
 have hd1:s.heap.objs.size<h1.objs.size:=by
  obtain ⟨o,_,_,ho,_⟩:=hD1
  exact Heap.lt_size ho
 have ha1:a<h1.objs.size:=Heap.lt_size (x1 a oa hoa)
 have has:a<s.heap.objs.size:=Heap.lt_size hoa
 have hnone:∀b,s.heap.objs.size≤b→s.heap.get? b=none:=fun b hb=>by
  cases e:s.heap.get? b with
  | none=>rfl
  | some o=>exact absurd (Heap.lt_size e) (Nat.not_lt.mpr hb)
 refine wpAny_pure ⟨plainId_quiet dN _,?_⟩
 refine dloop (A:=A.in1) (H0:=s.heap) ((Walks.tuple (A:=A.in1.in1) hh2 h1.objs.size a (Nat.ne_of_lt ha1) items).toS) s.heap.objs.size (by simp only[List.mem_cons,List.not_mem_nil,or_false,not_or];exact ⟨Nat.ne_of_lt hd1,Nat.ne_of_gt has⟩) (hnone _ (Nat.le_refl _)) (fun b hb=>by
   have:b=h1.objs.size:=by simpa using hb
   rw[this];exact hnone _ (Nat.le_of_lt hd1)) kvs hn hsz nd hval items.size 0 _ 0 0 (by omega) (Nat.zero_le _) ⟨⟨_,Heap.get?_push_size _ rfl,rfl,rfl⟩,ht1.push _⟩ (fun b o e=>Heap.get?_push_of_some _ (x1 b o e)) (dX hD1 fun o e=>Heap.get?_push_of_some _ e) ?_
 intro s' hm hx' hT'
 obtain ⟨h',g',d',tk',os'⟩:=s'
 have eg:g'=s.gens:=hm.gens
 have ed:d'=s.drawn:=hm.drawn
 have eo:os'=s.os:=hm.os
 subst eg;subst ed;subst eo
 exact ⟨rfl,h h' tk' hT' hx'⟩
end
end DcT
namespace MM
open PySem PySem.Spec PyProof.Rows L2 DcT
noncomputable local instance (priority:=1) cdec31 (p:Prop):Decidable p:=Classical.propDecidable p
section
variable {X:Cx} {N W G:List Str} {k:Nat}
local instance inhPV:Inhabited PV:=⟨.non⟩
def eR:List PV→Option (List (Int × PV))
 | []=>some []
 | .tup [.int k,v]::r=>(eR r).map ((k,v)::·)
 | _=>none
noncomputable def dgP (x:PV):Option (List (Int × PV)):=match x with
 | .tup ps=>(match eR ps with
  | some kvs=>if (kvs.map (·.1)).Nodup then some kvs else none
  | none=>none)
 | _=>none
def atK (kvs:List (Int × PV)) (i:Int) (d:PV):PV:=((kvs.find? fun kv=>kv.1=i).map (·.2)).getD d
noncomputable def mDg (m:Mx PV) (ma:Mx (List PV)):Mx PV:=fun σ h=>(m σ h).bind fun x h1=>match dgP x with
 | some kvs=>(ma σ h1).bind fun vs h2=>match vs with
  | [.int i,d]=>.ok (atK kvs i d) h2
  | _=>.bad
 | none=>.bad
theorem nW {K:PySem.W.Frag} {ρ:List Addr} {H:Hp}:∀{xs:List PV} {ys:List V} {us:List Value} {kvs:List (Int × PV)},RPs K ρ H xs ys→Vals ys us→eR xs=some kvs →
  xs.length=kvs.length∧∀(i:Nat) u kv,us[i]?=some u→kvs[i]?=some kv→∃b w,u=.ref b∧SqT K H b [.int kv.1,w]∧RP K ρ H kv.2 w:=by
 intro xs
 induction xs with
 | nil =>
  intro ys us kvs r v e
  cases r;cases v;cases e
  exact ⟨rfl,fun i u kv h=>by simp at h⟩
 | cons x xs ih =>
  intro ys us kvs r v e
  cases r with
  | cons r1 r2 =>
   cases v with
   | cons v1 v2 =>
    unfold eR at e
    split at e
    ·rename_i h;cases h
    ·rename_i k0 v0 r0 h
     injection h with h1 h2
     subst h1 h2
     rw[Option.map_eq_some_iff] at e
     obtain ⟨kvs',e1,rfl⟩:=e
     obtain ⟨hl,hv⟩:=ih r2 v2 e1
     refine ⟨by simp[hl],fun i u kv h1 h2=>?_⟩
     cases i with
     | zero =>
      simp at h1 h2
      subst h1 h2
      cases r1 with
      | tup sq rp =>
       cases rp with
       | cons q1 q2=>cases q2 with
        | cons q3 q4 =>
         cases q4;cases q1
         exact ⟨_,_,v1,sq,q3⟩
     | succ i =>
      simp at h1 h2
      exact hv i u kv h1 h2
    ·cases e
def DgO (X:Cx) (a:Addr) (kvs:List (Int × Value)):HO:=.ext fun h=>h.DictOf (intKind X.prog X.w) a kvs
theorem dg_rel {P:Program} {w:World} {ρ:List Addr} {K:PySem.W.Frag} {H:Hp} {kvs:List (Int × PV)} {vals:List (Int × Value)} (hl:kvs.length=vals.length)
  (hr:∀(i:Nat) a b,kvs[i]?=some a→vals[i]?=some b→a.1=b.1∧∃v,RelV v b.2∧RP K ρ H a.2 v) {d:PV} {d':V} {u:Value} (rd:RP K ρ H d d') (ru:RelV d' u) (i:Int) :
  ∃v,RelV v ((valueAt vals i).getD u)∧RP K ρ H (atK kvs i d) v:=by
 induction kvs generalizing vals with
 | nil =>
  cases vals with
  | nil=>exact ⟨d',ru,rd⟩
  | cons _ _=>simp at hl
 | cons a kvs ih =>
  cases vals with
  | nil=>simp at hl
  | cons b vals =>
   obtain ⟨e,v,h1,h2⟩:=hr 0 a b rfl rfl
   unfold atK valueAt
   rw[List.find?_cons,List.find?_cons]
   by_cases z:a.1=i
   ·have z':b.1=i:=e▸z
    simp only[z,z',decide_true]
    exact ⟨v,h1,h2⟩
   ·have z':¬b.1=i:=fun q=>z (e.trans q)
    simp only[z,z',decide_false]
    exact ih (by simpa using hl) fun j a b h1 h2=>hr (j+1) a b (by simpa using h1) (by simpa using h2)
theorem me_dget (g:Good X N W G k) {e a b:Expr} {m:Mx PV} {ma:Mx (List PV)} {j:Nat} {p p1 apos cpos:Pos} (hj:G[j]?=some "dict") (hm:X.mg "dict"=none) (he:ME X e m) (ha:MA X [a,b] ma)
  (h1:starEach [e] X.env=[(false,eval e X.env)]:=by rfl)
  (hbase:attributeBase (.Call (.Name "dict" p) [e] [] p1) "get" X.env (eval (.Call (.Name "dict" p) [e] [] p1) X.env)=eval (.Call (.Name "dict" p) [e] [] p1) X.env:=by rfl)
  (hfew:((backTo cpos (starEach [a,b] X.env)).all (fun x=>!x.1) && (backToKw cpos (keywordEach [] X.env)).all (fun x=>x.1.isSome)
   && decide ([a,b].length+([]:List Keyword).length+(if ([]:List Keyword).isEmpty then 0 else 1)<30))=true:=by rfl)
  (hline:(apos.endLine == cpos.line)=true:=by rfl) (hs:starEach [a,b] X.env=(false,eval a X.env)::starEach [b] X.env:=by rfl) (hplain:(backTo cpos (starEach [b] X.env)).any (·.1)=false:=by rfl) :
  ME X (.Call (.Attribute (.Call (.Name "dict" p) [e] [] p1) "get" apos) [a,b] [] cpos) (mDg m ma):=by
 have d1:=g.dbg _ (List.mem_append_right _ (aL hj))
 intro pins s σ H Q I ⟨ρ,σp,h,rs,rh,q⟩
 have hc:cW X (.type "dict") (fun xs H Q=>∃ρ h ps kvs v,xs=[v]∧RH X.K X.mg ρ H h∧RP X.K ρ H (.tup ps) v∧eR ps=some kvs∧(kvs.map (·.1)).Nodup ∧
   ∀l o vals,H l=none→o.dict=none→(l == sysModules)=false→kvs.length=vals.length →
    (∀(i:Nat) a b,kvs[i]?=some a→vals[i]?=some b→a.1=b.1∧∃v,RelV v b.2∧RP X.K ρ H a.2 v)→Q (.ref l) (upd H l (.frz o (DgO X l vals)))):=by
  intro pins s σ H xs us Q I r ⟨ρ,h,ps,kvs,v,e,rh,rp,ep,nd,q⟩
  subst e
  obtain ⟨u,rfl,ru⟩:=r.one
  cases rp with
  | tup sq rps =>
   cases ru
   obtain ⟨its,rv,ht,hz⟩:=I.tupleN sq
   obtain ⟨hl,hv⟩:=nW rps rv ep
   have hli:=rv.length
   have hlr:=rps.length
   have hall:∀i,i<its.length→∃b t w1,its[i]?=some (.ref b)∧s.heap.IsTuple b #[.int (kvs[i]!).1 t,w1]∧∃w,RelV w w1∧RP X.K ρ H (kvs[i]!).2 w:=by
    intro i hi
    have hk:i<kvs.length:=by omega
    obtain ⟨b,w,e1,e2,e3⟩:=hv i its[i] kvs[i] (by simp[hi]) (by simp[hk])
    obtain ⟨it2,rv2,ht2,_⟩:=I.tuple e2
    cases rv2 with
    | cons a1 a2=>cases a2 with
     | cons a3 a4 =>
      cases a4
      obtain ⟨t,rfl⟩:=a1
      refine ⟨b,t,_,by rw[List.getElem?_eq_getElem hi,e1],?_,w,a3,?_⟩
      ·rw[getElem!_pos kvs i hk];exact ht2
      ·rw[getElem!_pos kvs i hk];exact e3
   have hch:∃vals:List (Int × Value),vals.length=its.length∧∀i,i<its.length→∃b t w1,vals[i]?=some ((kvs[i]!).1,w1)∧its[i]?=some (.ref b)∧s.heap.IsTuple b #[.int (kvs[i]!).1 t,w1]∧∃w,RelV w w1∧RP X.K ρ H (kvs[i]!).2 w:=by
    have:∀n,n≤its.length→∃vals:List (Int × Value),vals.length=n∧∀i,i<n→∃b t w1,vals[i]?=some ((kvs[i]!).1,w1)∧its[i]?=some (.ref b)∧s.heap.IsTuple b #[.int (kvs[i]!).1 t,w1]∧∃w,RelV w w1∧RP X.K ρ H (kvs[i]!).2 w:=by
     intro n
     induction n with
     | zero=>exact fun _=>⟨[],rfl,fun i hi=>absurd hi (Nat.not_lt_zero _)⟩
     | succ n ih =>
      intro hn
      obtain ⟨vs,e1,e2⟩:=ih (by omega)
      obtain ⟨b,t,w1,f1,f2,f3⟩:=hall n (by omega)
      refine ⟨vs++[((kvs[n]!).1,w1)],by simp[e1],fun i hi=>?_⟩
      by_cases z:i<n
      ·obtain ⟨b,t,w1,g1,g2⟩:=e2 i z
       exact ⟨b,t,w1,by rw[List.getElem?_append_left (by omega)];exact g1,g2⟩
      ·have:i=n:=by omega
       subst this
       exact ⟨b,t,w1,by rw[List.getElem?_append_right (by omega),e1];simp,f1,f2,f3⟩
    exact this _ (Nat.le_refl _)
   obtain ⟨vals,hvl,hva⟩:=hch
   have hkeys:vals.map (·.1)=kvs.map (·.1):=by
    apply List.ext_getElem?
    intro i
    by_cases z:i<its.length
    ·obtain ⟨_,_,_,g1,_⟩:=hva i z
     have hk:i<kvs.length:=by omega
     rw[List.getElem?_map,List.getElem?_map,g1,List.getElem?_eq_getElem hk,getElem!_pos kvs i hk]
     rfl
    ·rw[List.getElem?_eq_none (by simp;omega),List.getElem?_eq_none (by simp;omega)]
   obtain ⟨oa,hoa,hca,⟨na,hda⟩,hdi⟩:=ht
   refine jg (a:=_) (items:=its.toArray) (kvs:=vals) (I.ok.hd g.calm) ⟨oa,na,hoa,hca,hda,hdi⟩ (by simp[hvl]) (by simp;omega) (hkeys▸nd) (fun i v kv h1 h2=>?_) fun h' tk hD hx=>?_
   ·have z:i<its.length:=by
     have:=(List.getElem?_eq_some_iff.mp h2).1
     omega
    obtain ⟨b,t,w1,g1,g2,g3,_⟩:=hva i z
    rw[g1] at h2
    cases h2
    have:v=.ref b:=by
     have e:its.toArray[i]?=its[i]?:=by simp
     rw[e,g2] at h1
     exact (Option.some.inj h1).symm
    exact ⟨b,t,this,g3⟩
   ·have hn:H s.heap.objs.size=none:=I.hok.fresh (Nat.le_refl _)
    obtain ⟨o,es,epp,ho,ex,r⟩:=hD
    have hbm:=Inv.bigM I
    refine ⟨.ref s.heap.objs.size,_,I.laid (o:=.frz o (DgO X s.heap.objs.size vals)) hx (Nat.le_refl _) ⟨ho,⟨o,es,epp,ho,ex,r⟩,⟨o,ho⟩,fun h1 h2 hd hk=>dX hd hk⟩,rfl,q _ o vals hn ex.2.1 (beq_eq_false_iff_ne.mpr (Nat.ne_of_gt hbm)) (by omega) fun i a b h1 h2=>?_⟩
    have z:i<its.length:=by
     have:=(List.getElem?_eq_some_iff.mp h2).1
     omega
    obtain ⟨b',t,w1,g1,g2,g3,w,g4,g5⟩:=hva i z
    rw[g1] at h2
    cases h2
    have hk:i<kvs.length:=by omega
    rw[List.getElem?_eq_getElem hk] at h1
    cases h1
    rw[getElem!_pos kvs i hk] at g5 ⊢
    exact ⟨rfl,w,g4,g5⟩
  | _=>cases ep
 have hdc:=j6 (x:="dict") (p:=p) (pos:=p1) hc (g.gl _ (aL hj)) hm PyProof.Rows.Boot.«dict» (iu he la h1) d1.2.2 d1.1 h1 rfl
 refine wpAny_Call_method_late hbase hfew hline rfl (thn (hdc pins s σ H (fun x H1=>∃ρ1 l o vals kvs h1,x=.ref l∧H1 l=some (.frz o (DgO X l vals))∧o.dict=none∧(l == sysModules)=false∧kvs.length=vals.length ∧
   (∀(i:Nat) a b,kvs[i]?=some a→vals[i]?=some b→a.1=b.1∧∃v,RelV v b.2∧RP X.K ρ1 H1 a.2 v)∧RS X.K ρ1 H1 σp σ∧RH X.K X.mg ρ1 H1 h1 ∧
   Ful X (RV' X) σp ρ1 H1 ((ma σp h1).bind fun vs h2=>match vs with | [.int i,d]=>.ok (atK kvs i d) h2 | _=>.bad) Q) I ?_) fun v s1 ⟨x,H1,I1,r1,ρ1,l,o,vals,kvs,h1,ex,hfr,ho,hsys,hlen,hrel,rs1,rh1,q1⟩=>?_)
 ·refine ⟨ρ,σp,h,rs,rh,Ful.bind q fun ρ1 H1 x x' h1 hxe l1 rh1 rx q1=>?_⟩
  clear hxe
  cases ed:dgP x with
  | none=>rw[ed] at q1;exact q1.elim
  | some kvs =>
   rw[ed] at q1
   dsimp only at q1
   unfold dgP at ed
   split at ed
   ·rename_i ps
    split at ed
    ·rename_i x1 kvs' ep
     split at ed
     ·rename_i nd
      cases ed
      refine ⟨ρ1,h1,ps,kvs,x',rfl,rh1,rx,ep,nd,fun l o vals hl ho hsys hlen hrel=>?_⟩
      obtain ⟨rh2,l2⟩:=rh1.loose hl (.frz o (DgO X l vals))
      exact ⟨ρ1,l,o,vals,kvs,h1,rfl,cc,ho,hsys,hlen,fun i a b e1 e2=>(hrel i a b e1 e2).imp_right fun ⟨v,e3,e4⟩=>⟨v,e3,e4.le l2⟩,rs.le (l1.trans l2),rh2,Ful.le l2 q1⟩
     ·cases ed
    ·cases ed
   ·cases ed
 ·subst ex
  cases r1
  obtain ⟨hg1,hD,_⟩:=(show ObjOk X.prog X.w H1 s1.heap l (.frz o (DgO X l vals)) from I1.hok l _ hfr)
  have hD:s1.heap.DictOf (intKind X.prog X.w) l vals:=hD
  refine ⟨"dict","dict.get",PySem.F.plainAttrs_dict,PySem.F.slot_dict_get,PySem.F.type_dict_get,hD.typeIs,fun a e=>by cases e;exact ⟨o,hg1,ho⟩,?_⟩
  have hA:=ha cpos pins s1 σ H1 (fun vs' H2=>∃ρ2 i d d',vs'=[.int i,d']∧Le ρ1 H1 ρ2 H2∧RP X.K ρ2 H2 d d'∧∀v,RP X.K ρ2 H2 (atK kvs i d) v→Q v H2) I1 ⟨ρ1,σp,h1,rs1,rh1,Ful.bind q1 fun ρ2 H2 vs vs' h2 hxe l2 rh2 rvs q2=>by
   clear hxe
   split at q2
   ·rename_i i d
    cases rvs with
    | cons a1 a2=>cases a2 with
     | cons a3 a4 =>
      cases a4;cases a1
      exact ⟨ρ2,i,d,_,rfl,l2,a3,fun v rv=>q2 ρ2 H2 v (Le.refl _ _) rh2 rv⟩
   ·exact q2.elim⟩
  rw[hs] at hA ⊢
  refine Calls.callWith_builtin (by show (false || (backTo cpos (starEach [b] X.env)).any (·.1))=false;rw[hplain] <;> rfl) (Calls.evalArgs_plain ?_)
  refine thn hA fun us s2 ⟨vs,H2,I2,r2,ρ2,i,d,d',ev,l2,rd,q2⟩=>?_
  subst ev
  cases r2 with
  | cons b1 b2=>cases b2 with
   | @cons _ u _ _ b3 b4 =>
    cases b4
    obtain ⟨t,rfl⟩:=b1
    obtain ⟨hg2,hD2,_⟩:=(show ObjOk X.prog X.w H2 s2.heap l (.frz o (DgO X l vals)) from I2.hok l _ (l2.frz _ _ _ hfr))
    have hD2:s2.heap.DictOf (intKind X.prog X.w) l vals:=hD2
    obtain ⟨v,rv,rp⟩:=dg_rel (P:=X.prog) (w:=X.w) hlen (fun i a b e1 e2=>(hrel i a b e1 e2).imp_right fun ⟨v,e3,e4⟩=>⟨v,e3,e4.le l2⟩) rd b3 i
    exact call_meetsIn PySem.F.slot_dict_get hD2.typeIs PySem.F.entry_dict_get (PySem.F.args_dict_get_3 _ _ _) (meets_dict_get_default (intKind X.prog X.w) l (intKind_is X.prog X.w i t) hsys u) ⟨_,hD2.mapOf,v,H2,I2.tok _,rv,q2 v rp⟩
@[simp] theorem mDg_ap {m:Mx PV} {ma:Mx (List PV)} {σ:PSt} {h:MH}:mDg m ma σ h=(m σ h).bind fun x h1=>match dgP x with
 | some kvs=>(ma σ h1).bind fun vs h2=>match vs with
  | [.int i,d]=>.ok (atK kvs i d) h2
  | _=>.bad
 | none=>.bad:=rfl
def gg (K:PySem.W.Frag) (x:Str) (i j:Int):Prop:=∃(a:Addr) (t t':Tok) (n:Nat) (sl:Array (Option Value)),PySem.W.nsIn K mainGlobals x=some (some (.ref a))∧K.lookup a=some ⟨.type "tuple",none,.seq #[.int i t,.int j t'] n,sl⟩
def TupG (K:PySem.W.Frag) (mg:MGl) (x:Str) (i j:Int):Prop:=∃(a:Addr) (t t':Tok) (n:Nat) (sl:Array (Option Value)),mg x=some (.ref a)∧K.lookup a=some ⟨.type "tuple",none,.seq #[.int i t,.int j t'] n,sl⟩
theorem m8 {K:PySem.W.Frag} {x:Str} {i j:Int} {a:Addr} {t t':Tok} {n:Nat} {sl:Array (Option Value)} (h:PySem.W.nsIn K mainGlobals x=some (some (.ref a))) (l:K.lookup a=some ⟨.type "tuple",none,.seq #[.int i t,.int j t'] n,sl⟩):gg K x i j:=⟨a,t,t',n,sl,h,l⟩
theorem gg.mg {K:PySem.W.Frag} {mg:MGl} {base:Heap} {x:Str} {i j:Int} (z:gg K x i j) (kin:K.In base) (ns:base.Ns mainGlobals mg):TupG K mg x i j:=by
 obtain ⟨a,t,t',n,sl,h,l⟩:=z
 exact ⟨a,t,t',n,sl,PySem.W.mg_of kin ns h,l⟩
theorem fV (g:Good X N W G k) {x:Str} {q:Nat} {i j:Int} {pos:Pos} (hj:G[q]?=some x) (hm:TupG X.K X.mg x i j):ME X (.Name x pos) (mC (.tup [.int i,.int j])):=by
 obtain ⟨a,t,t',n,sl,hm,hl⟩:=hm
 have d:=g.dbg x (List.mem_append_right _ (aL hj))
 exact PE.imp (pe_glob (v:=.ref a) (g.gl x (aL hj)) hm rfl d.1) fun σ H Q ⟨ρ,σp,h,rs,rh,q⟩=>q ρ H _ (Le.refl _ _) rh (.tup (ys:=[.int i,.int j]) (.inr ⟨_,_,n,hl,rfl,⟨rfl,rfl⟩,by show 2≤sizeLine;decide,.cons ⟨t,rfl⟩ (.cons ⟨t',rfl⟩ .nil)⟩) (.cons (.int _) (.cons (.int _) .nil)))
end
end MM
namespace PU
open PySem MM
theorem ys {α:Type} {a b:α} (h:a=b):a=b:=h
inductive D where
 | non | bl (b:Bool) | int (i:Int) | str (x:Str) | tup (xs:List D) | lst (xs:List D) | dic | exc (c:Str) | pen
abbrev Pen:=Int × Int × Int
abbrev DEnv:=List (Option D)
def bD (h:MH) (p:Nat) (s:Pen):Prop:=h[p]?=some (.lst [.int s.1,.int s.2.1,.int s.2.2])
mutual
def Rp (p:Nat) (h:MH) (O:List Nat):D→PV→Prop
 | .non,v=>v=.non
 | .bl b,v=>v=.bl b
 | .int i,v=>v=.int i
 | .str x,v=>v=.str x
 | .tup ds,v=>∃xs,v=.tup xs∧Rps p h O ds xs
 | .lst ds,v=>∃n xs,v=.loc n∧n∉O∧h[n]?=some (.lst xs)∧Rps p h O ds xs
 | .dic,v=>∃n,v=.loc n∧n∉O∧h[n]?=some (.dic [])
 | .exc c,v=>∃n,v=.loc n∧n∉O∧h[n]?=some (.exc ⟨c,[]⟩)
 | .pen,v=>v=.loc p
def Rps (p:Nat) (h:MH) (O:List Nat):List D→List PV→Prop
 | [],vs=>vs=[]
 | d::ds,vs=>∃x r,vs=x::r∧Rp p h O d x∧Rps p h O ds r
end
theorem aW {h:MH} {n:Nat} {o:MO} (e:h[n]?=some o):n<h.length:=(List.getElem?_eq_some_iff.mp e).1
structure Mv (O:List Nat) (h:MH) (O':List Nat) (h':MH):Prop where
 keep:∀n:Nat,n<h.length→n∉O→h'[n]?=h[n]?
 new:∀o∈O',o∈O∨h.length≤o
theorem Mv.get {O O':List Nat} {h h':MH} (s:Mv O h O' h') {n:Nat} {o:MO} (e:h[n]?=some o) (no:n∉O):n∉O'∧h'[n]?=some o:=by
 have hl:=aW e
 refine ⟨fun z=>?_,(s.keep n hl no).trans e⟩
 rcases s.new n z with q|q
 ·exact no q
 ·omega
section
variable {p:Nat} {O O':List Nat} {h h':MH}
mutual
theorem Rp.mv (s:Mv O h O' h'):∀{d:D} {v:PV},Rp p h O d v→Rp p h' O' d v
 | .non,_,r=>r
 | .bl _,_,r=>r
 | .int _,_,r=>r
 | .str _,_,r=>r
 | .tup ds,_,⟨xs,e,r⟩=>⟨xs,e,Rps.mv s r⟩
 | .lst ds,_,⟨n,xs,e,no,g,r⟩=>⟨n,xs,e,(s.get g no).1,(s.get g no).2,Rps.mv s r⟩
 | .dic,_,⟨n,e,no,g⟩=>⟨n,e,(s.get g no).1,(s.get g no).2⟩
 | .exc c,_,⟨n,e,no,g⟩=>⟨n,e,(s.get g no).1,(s.get g no).2⟩
 | .pen,_,r=>r
theorem Rps.mv (s:Mv O h O' h'):∀{ds:List D} {vs:List PV},Rps p h O ds vs→Rps p h' O' ds vs
 | [],_,r=>r
 | _::_,_,⟨x,t,e,a,b⟩=>⟨x,t,e,Rp.mv s a,Rps.mv s b⟩
end
theorem Rps.length:∀{ds:List D} {vs:List PV},Rps p h O ds vs→vs.length=ds.length
 | [],_,r=>by rw[r];rfl
 | _::_,_,⟨x,t,e,a,b⟩=>by rw[e,List.length_cons,List.length_cons,Rps.length b]
theorem Rps.get:∀{ds:List D} {vs:List PV} {i:Nat} {d:D},Rps p h O ds vs→ds[i]?=some d→∃v,vs[i]?=some v∧Rp p h O d v
 | [],_,_,_,_,e=>by simp at e
 | _::_,_,0,_,⟨x,t,e,a,b⟩,g=>by simp at g;subst g e;exact ⟨x,rfl,a⟩
 | _::ds,_,i+1,d,⟨x,t,e,a,b⟩,g=>by
  obtain ⟨v,e1,r⟩:=Rps.get (i:=i) (d:=d) b (by simpa using g)
  exact ⟨v,by rw[e];simpa using e1,r⟩
theorem Rps.app:∀{ds es:List D} {vs ws:List PV},Rps p h O ds vs→Rps p h O es ws→Rps p h O (ds++es) (vs++ws)
 | [],_,_,_,r,s=>by rw[r];exact s
 | _::_,_,_,_,⟨x,t,e,a,b⟩,s=>⟨x,t++_,by rw[e];rfl,a,Rps.app b s⟩
theorem Rps.take:∀{ds:List D} {vs:List PV} (n:Nat),Rps p h O ds vs→Rps p h O (ds.take n) (vs.take n)
 | _,_,0,_=>rfl
 | [],_,_+1,r=>by rw[r];rfl
 | _::_,_,n+1,⟨x,t,e,a,b⟩=>⟨x,t.take n,by rw[e];rfl,a,Rps.take n b⟩
theorem Rps.drop:∀{ds:List D} {vs:List PV} (n:Nat),Rps p h O ds vs→Rps p h O (ds.drop n) (vs.drop n)
 | _,_,0,r=>r
 | [],_,_+1,r=>by rw[r];rfl
 | _::_,_,n+1,⟨x,t,e,a,b⟩=>by rw[e];exact Rps.drop n b
theorem Rps.set:∀{ds:List D} {vs:List PV} (i:Nat) {d:D} {v:PV},Rps p h O ds vs→Rp p h O d v→Rps p h O (ds.set i d) (vs.set i v)
 | [],_,_,_,_,r,_=>by rw[r];rfl
 | _::_,_,0,_,v,⟨x,t,e,a,b⟩,q=>⟨v,t,by rw[e];rfl,q,b⟩
 | _::_,_,i+1,_,v,⟨x,t,e,a,b⟩,q=>⟨x,t.set i v,by rw[e];rfl,a,Rps.set i b q⟩
end
def Vw (p:Nat) (h:MH) (L:Nat) (O:List Nat) (d:D) (v:PV):Prop:=Rp p h O d v∨∃n xs ds,d=.lst ds∧v=.loc n∧n∈O∧L≤n∧h[n]?=some (.lst xs)∧Rps p h O ds xs
def Vws (p:Nat) (h:MH) (L:Nat) (O:List Nat):List D→List PV→Prop
 | [],vs=>vs=[]
 | d::ds,vs=>∃x r,vs=x::r∧Vw p h L O d x∧Vws p h L O ds r
def Frs (p:Nat) (L:Nat) (O:List Nat) (h:MH) (d:D) (v:PV):Prop:=∀ds,d=.lst ds→∃n xs,v=.loc n∧L≤n∧h[n]?=some (.lst xs)∧Rps p h (n::O) ds xs
structure KB (p:Nat) (h h':MH):Prop where
 len:h.length≤h'.length
 keep:∀n:Nat,n<h.length→n≠p→h'[n]?=h[n]?
theorem KB.refl (p:Nat) (h:MH):KB p h h:=⟨Nat.le_refl _,fun _ _ _=>rfl⟩
theorem KB.trans {p:Nat} {h h1 h2:MH} (a:KB p h h1) (b:KB p h1 h2):KB p h h2 :=
 ⟨Nat.le_trans a.len b.len,fun n hn hp=>(b.keep n (Nat.lt_of_lt_of_le hn a.len) hp).trans (a.keep n hn hp)⟩
theorem KB.app (p:Nat) (h g:MH):KB p h (h++g):=⟨by simp,fun n hn _=>List.getElem?_append_left hn⟩
theorem KB.mv {p:Nat} {h h':MH} {O:List Nat} (k:KB p h h') (hp:p∈O):Mv O h O h' :=
 ⟨fun n hn no=>k.keep n hn fun z=>no (z▸hp),fun o ho=>.inl ho⟩
theorem bD.app {p:Nat} {h g:MH} {s:Pen} (e:bD h p s):bD (h++g) p s:=by
 unfold bD at *
 rw[List.getElem?_append_left (aW e)];exact e
theorem Vw.kb {p L:Nat} {h h':MH} {O:List Nat} {d:D} {v:PV} (k:KB p h h') (hp:p∈O) (hL:p<L) (w:Vw p h L O d v):Vw p h' L O d v:=by
 rcases w with r|⟨n,xs,ds,e1,e2,ho,hn,g,r⟩
 ·exact .inl (r.mv (k.mv hp))
 ·exact .inr ⟨n,xs,ds,e1,e2,ho,hn,(k.keep n (aW g) (by omega)).trans g,r.mv (k.mv hp)⟩
inductive PR (α:Type) where
 | ok (a:α) (s:Pen)
 | exc (c:Str) (s:Pen)
 | bad
def PR.bind {α β:Type} (r:PR α) (f:α→Pen→PR β):PR β:=match r with
 | .ok a s=>f a s
 | .exc c s=>.exc c s
 | .bad=>.bad
@[simp] theorem PR.bind_ok {α β:Type} (a:α) (s:Pen) (f:α→Pen→PR β):(PR.ok a s).bind f=f a s:=rfl
@[simp] theorem PR.bind_exc {α β:Type} (c:Str) (s:Pen) (f:α→Pen→PR β):(PR.exc c s).bind f=.exc c s:=rfl
@[simp] theorem PR.bind_bad {α β:Type} (f:α→Pen→PR β):(PR.bad:PR α).bind f=.bad:=rfl
def PR.of {α:Type} (o:Option α) (s:Pen):PR α:=match o with
 | some a=>.ok a s
 | none=>.bad
@[simp] theorem PR.of_some {α:Type} (a:α) (s:Pen):PR.of (some a) s=.ok a s:=rfl
@[simp] theorem PR.of_none {α:Type} (s:Pen):PR.of (none:Option α) s=.bad:=rfl
def Ok {α β:Type} (p:Nat) (h:MH) (o:Out β) (r:PR α) (R:MH→α→β→Prop):Prop:=match r with
 | .ok a s=>∃b h',o=.ok b h'∧KB p h h'∧bD h' p s∧R h' a b
 | .exc c s=>∃h',o=.exc ⟨c,[]⟩ h'∧KB p h h'∧bD h' p s
 | .bad=>True
theorem Ok.bind {α β γ δ:Type} {p:Nat} {h:MH} {o:Out β} {r:PR α} {R:MH→α→β→Prop} {f:β→MH→Out δ} {g:α→Pen→PR γ} {S:MH→γ→δ→Prop} (q:Ok p h o r R)
  (k:∀a b h1 s,KB p h h1→bD h1 p s→R h1 a b→Ok p h1 (f b h1) (g a s) S):Ok p h (o.bind f) (r.bind g) S:=by
 cases r with
 | ok a s =>
  obtain ⟨b,h1,rfl,kb,pn,rr⟩:=q
  have:=k a b h1 s kb pn rr
  rw[Out.bind_ok,PR.bind_ok]
  cases e:g a s with
  | ok c s2 =>
   rw[e] at this
   obtain ⟨d,h2,e2,kb2,pn2,r2⟩:=this
   exact ⟨d,h2,e2,kb.trans kb2,pn2,r2⟩
  | exc c s2 =>
   rw[e] at this
   obtain ⟨h2,e2,kb2,pn2⟩:=this
   exact ⟨h2,e2,kb.trans kb2,pn2⟩
  | bad=>trivial
 | exc c s =>
  obtain ⟨h1,rfl,kb,pn⟩:=q
  exact ⟨h1,rfl,kb,pn⟩
 | bad=>trivial
theorem Ok.imp {α β:Type} {p:Nat} {h:MH} {o:Out β} {r:PR α} {R S:MH→α→β→Prop} (q:Ok p h o r R) (k:∀h' a b,KB p h h'→R h' a b→S h' a b):Ok p h o r S:=by
 cases r with
 | ok a s=>obtain ⟨b,h1,e,kb,pn,rr⟩:=q;exact ⟨b,h1,e,kb,pn,k _ _ _ kb rr⟩
 | exc c s=>exact q
 | bad=>trivial
structure SR (p:Nat) (h:MH) (L:Nat) (O:List Nat) (ws:List Nat) (σ:PSt) (env:DEnv):Prop where
 len:σ.length=env.length
 fz:∀i d,env[i]?=some (some d)→i∉ws→∃v,σ[i]?=some (some v)∧Rp p h O d v
 ow:∀i d,env[i]?=some (some d)→i∈ws→∃n xs ds,d=.lst ds∧σ[i]?=some (some (.loc n))∧n∈O∧L≤n∧h[n]?=some (.lst xs)∧Rps p h O ds xs
structure Cx (p:Nat) (h:MH) (L:Nat) (B O:List Nat) (ws:List Nat) (σ:PSt) (env:DEnv) (s:Pen):Prop where
 bd:∀o∈O,o<h.length
 sub:∀o∈B,o∈O
 bb:∀o∈B,o<L
 pb:p∈B
 hL:L≤h.length
 pen:bD h p s
 sr:SR p h L O ws σ env
section
variable {p L:Nat} {h h':MH} {B O ws:List Nat} {σ:PSt} {env:DEnv} {s s':Pen}
theorem Cx.pO (c:Cx p h L B O ws σ env s):p∈O:=c.sub p c.pb
theorem Cx.pL (c:Cx p h L B O ws σ env s):p<L:=c.bb p c.pb
theorem SR.mv {O':List Nat} (m:Mv O h O' h') (hs:∀o∈O,o∈O') (ho:∀n:Nat,n<h.length→L≤n→n∈O→h'[n]?=h[n]?) (r:SR p h L O ws σ env):SR p h' L O' ws σ env :=
 ⟨r.len,fun i d e hi=>let ⟨v,e1,q⟩:=r.fz i d e hi;⟨v,e1,q.mv m⟩,fun i d e hi=>let ⟨n,xs,ds,e1,e2,a,b,g,q⟩:=r.ow i d e hi;⟨n,xs,ds,e1,e2,hs n a,b,(ho n (aW g) b a).trans g,q.mv m⟩⟩
theorem Cx.kb (c:Cx p h L B O ws σ env s) (k:KB p h h') (pn:bD h' p s'):Cx p h' L B O ws σ env s' :=
 ⟨fun o ho=>Nat.lt_of_lt_of_le (c.bd o ho) k.len,c.sub,c.bb,c.pb,Nat.le_trans c.hL k.len,pn,c.sr.mv (k.mv c.pO) (fun _ h=>h) fun n hn hl _=>k.keep n hn (by have:=c.pL;omega)⟩
theorem Vw.base (w:Vw p h L O d v) (sub:∀o∈B,o∈O) (bb:∀o∈B,o<L):Rp p h B d v:=by
 have m:Mv O h B h:=⟨fun _ _ _=>rfl,fun o ho=>.inl (sub o ho)⟩
 rcases w with r|⟨n,xs,ds,rfl,rfl,_,hn,g,r⟩
 ·exact r.mv m
 ·exact ⟨n,xs,rfl,fun z=>by have:=bb n z;omega,g,r.mv m⟩
theorem Vws.base (sub:∀o∈B,o∈O) (bb:∀o∈B,o<L):∀{ds:List D} {vs:List PV},Vws p h L O ds vs→Rps p h B ds vs
 | [],_,r=>r
 | _::_,_,⟨x,t,e,a,b⟩=>⟨x,t,e,a.base sub bb,Vws.base sub bb b⟩
theorem Frs.rp {d:D} {v:PV} {L':Nat} (f:Frs p L' O h d v) (bd:∀o∈O,o<L') {ds:List D} (e:d=.lst ds):Rp p h O d v:=by
 obtain ⟨n,xs,e1,hn,g,r⟩:=f ds e
 subst e
 exact ⟨n,xs,e1,fun z=>by have:=bd n z;omega,g,r.mv ⟨fun _ _ _=>rfl,fun o ho=>.inl (List.mem_cons_of_mem _ ho)⟩⟩
theorem Frs.le {d:D} {v:PV} {L1 L2:Nat} (f:Frs p L2 O h d v) (hl:L1≤L2):Frs p L1 O h d v:=fun ds e =>
 let ⟨n,xs,e1,hn,g,r⟩:=f ds e;⟨n,xs,e1,Nat.le_trans hl hn,g,r⟩
end
abbrev Bd (h:MH) (O:List Nat):Prop:=∀o∈O,o<h.length
def Gv (p:Nat) (h:MH) (O:List Nat) (fr:Bool) (o:Out PV) (d:D):Prop:=∃v g,o=.ok v (h++g)∧Rp p (h++g) O d v∧(fr=true→Frs p h.length O (h++g) d v)
structure Op1 where
 m:PV→MH→Out PV
 p:D→Option D
 fr:Bool
 ok:∀{q h L O a x d},Bd h O→Vw q h L O a x→p a=some d→Gv q h O fr (m x h) d
structure Op2 where
 m:PV→PV→MH→Out PV
 p:D→D→Option D
 fr:Bool
 ok:∀{q h L O a x b y d},Bd h O→Vw q h L O a x→Vw q h L O b y→p a b=some d→Gv q h O fr (m x y h) d
structure OpN where
 k:List PV→MH→Out PV
 p:List D→Option D
 fr:Bool
 ok:∀{q h L O as xs d},Bd h O→Vws q h L O as xs→p as=some d→Gv q h O fr (k xs h) d
structure Fn where
 m:List PV→MH→Out PV
 p:List D→Pen→PR D
 fr:Bool
 ok:∀{q h O vs ds s},Bd h O→q∈O→bD h q s→Rps q h O ds vs→Ok q h (m vs h) (p ds s) (fun h' d v=>Rp q h' O d v∧(fr=true→Frs q h.length O h' d v))
mutual
def flat:D→Bool
 | .lst _ | .dic | .exc _ | .pen=>false
 | .tup ds=>flats ds
 | _=>true
def flats:List D→Bool
 | []=>true
 | d::ds=>flat d && flats ds
end
section
variable {p:Nat} {h h':MH} {O O':List Nat}
mutual
theorem Rp.flat:∀{d:D} {v:PV},PU.flat d=true→Rp p h O d v→Rp p h' O' d v
 | .non,_,_,r=>r
 | .bl _,_,_,r=>r
 | .int _,_,_,r=>r
 | .str _,_,_,r=>r
 | .tup ds,_,f,⟨xs,e,r⟩=>⟨xs,e,Rps.flat (by simpa [PU.flat] using f) r⟩
 | .lst ds,_,f,_=>by simp[PU.flat] at f
 | .dic,_,f,_=>by simp[PU.flat] at f
 | .exc _,_,f,_=>by simp[PU.flat] at f
 | .pen,_,f,_=>by simp[PU.flat] at f
theorem Rps.flat:∀{ds:List D} {vs:List PV},PU.flats ds=true→Rps p h O ds vs→Rps p h' O' ds vs
 | [],_,_,r=>r
 | _::_,_,f,⟨x,t,e,a,b⟩=>⟨x,t,e,Rp.flat (by simp[PU.flats] at f;exact f.1) a,Rps.flat (by simp[PU.flats] at f;exact f.2) b⟩
end
end
structure Xe (ws:List Nat) where
 m:Mx PV
 p:DEnv→Pen→PR D
 fz:Bool
 fr:Bool
 ok:∀{q h L B O σ env s},Cx q h L B O ws σ env s→Ok q h (m σ h) (p env s) (fun h' d v=>Vw q h' L O d v∧(fz=true→Rp q h' O d v)∧(fr=true→Frs q h.length O h' d v))
structure Xs (ws:List Nat) where
 m:Mx (List PV)
 p:DEnv→Pen→PR (List D)
 fz:Bool
 ok:∀{q h L B O σ env s},Cx q h L B O ws σ env s→Ok q h (m σ h) (p env s) (fun h' ds vs=>Vws q h' L O ds vs∧(fz=true→Rps q h' O ds vs))
structure Xt (ws:List Nat) where
 m:Mx Bool
 p:DEnv→Pen→PR Bool
 ok:∀{q h L B O σ env s},Cx q h L B O ws σ env s→Ok q h (m σ h) (p env s) (fun _ a b=>a=b)
noncomputable section
variable {ws:List Nat}
theorem give {q L:Nat} {h h2:MH} {O:List Nat} {o:Out PV} {d:D} {s:Pen} {fr:Bool} (le:h.length≤h2.length) (pn:bD h2 q s) (g:Gv q h2 O fr o d) :
  Ok q h2 o (.ok d s) (fun h' d v=>Vw q h' L O d v∧(true=true→Rp q h' O d v)∧(fr=true→Frs q h.length O h' d v)):=by
 obtain ⟨v,g,e,r,f⟩:=g
 exact ⟨v,h2++g,e,KB.app _ _ _,pn.app,.inl r,fun _=>r,fun z=>(f z).le le⟩
def xVar (i:Nat):Xe ws where
 m:=mVar i
 p:=fun env s=>match env[i]? with
  | some (some d)=>.ok d s
  | _=>.bad
 fz:=!ws.contains i
 fr:=false
 ok {q h L B O σ env s} c:=by
  show Ok q h _ (match env[i]? with | some (some d)=>PR.ok d s | _=>.bad) _
  cases e:env[i]? with
  | none=>trivial
  | some o =>
   cases o with
   | none=>trivial
   | some d =>
    by_cases z:i∈ws
    ·obtain ⟨n,xs,ds,e1,e2,a,b,g,r⟩:=c.sr.ow i d e z
     exact ⟨.loc n,h,by simp[mVar,e2],KB.refl _ _,c.pen,.inr ⟨n,xs,ds,e1,rfl,a,b,g,r⟩,fun f=>by simp[z] at f,fun f=>by simp at f⟩
    ·obtain ⟨v,e1,r⟩:=c.sr.fz i d e z
     exact ⟨v,h,by simp[mVar,e1],KB.refl _ _,c.pen,.inl r,fun _=>r,fun f=>by simp at f⟩
inductive Cn where
 | non | bl (b:Bool) | int (i:Int) | str (x:Str)
def Cn.v:Cn→PV
 | .non=>.non
 | .bl b=>.bl b
 | .int i=>.int i
 | .str x=>.str x
def Cn.d:Cn→D
 | .non=>.non
 | .bl b=>.bl b
 | .int i=>.int i
 | .str x=>.str x
theorem Cn.rp (c:Cn) {q:Nat} {h:MH} {O:List Nat}:Rp q h O c.d c.v:=by cases c <;> rfl
def xC (k:Cn):Xe ws where
 m:=mC k.v
 p:=fun _ s=>.ok k.d s
 fz:=true
 fr:=true
 ok {q h L B O σ env s} c:=⟨k.v,h,rfl,KB.refl _ _,c.pen,.inl k.rp,fun _=>k.rp,fun _ ds e=>by cases k <;> cases e⟩
def xBin (o:Op2) (a b:Xe ws):Xe ws where
 m:=mBin o.m a.m b.m
 p:=fun env s=>(a.p env s).bind fun x s1=>(b.p env s1).bind fun y s2=>.of (o.p x y) s2
 fz:=true
 fr:=o.fr
 ok {q h L B O σ env s} c:=by
  refine (a.ok c).bind fun x v h1 s1 k1 p1 ⟨w1,_,_⟩=>?_
  refine (b.ok (c.kb k1 p1)).bind fun y w h2 s2 k2 p2 ⟨w2,_,_⟩=>?_
  cases e:o.p x y with
  | none=>trivial
  | some d =>
   have c2:=(c.kb k1 p1).kb k2 p2
   obtain ⟨u,g,e1,r,f⟩:=o.ok c2.bd (w1.kb k2 c.pO c.pL) w2 e
   exact give (Nat.le_trans k1.len k2.len) p2 ⟨u,g,by rw[e1];rfl,r,f⟩
def xUn (o:Op1) (a:Xe ws):Xe ws where
 m:=mUn o.m a.m
 p:=fun env s=>(a.p env s).bind fun x s1=>.of (o.p x) s1
 fz:=true
 fr:=o.fr
 ok {q h L B O σ env s} c:=by
  refine (a.ok c).bind fun x v h1 s1 k1 p1 ⟨w1,_,_⟩=>?_
  cases e:o.p x with
  | none=>trivial
  | some d =>
   obtain ⟨u,g,e1,r,f⟩:=o.ok (c.kb k1 p1).bd w1 e
   exact give k1.len p1 ⟨u,g,by rw[e1];rfl,r,f⟩
def xNil:Xs ws where
 m:=mNil
 p:=fun _ s=>.ok [] s
 fz:=true
 ok {q h L B O σ env s} c:=⟨[],h,rfl,KB.refl _ _,c.pen,rfl,fun _=>rfl⟩
def ab (a:Xe ws) (r:Xs ws):Xs ws where
 m:=ae a.m r.m
 p:=fun env s=>(a.p env s).bind fun x s1=>(r.p env s1).bind fun y s2=>.ok (x::y) s2
 fz:=a.fz && r.fz
 ok {q h L B O σ env s} c:=by
  refine (a.ok c).bind fun x v h1 s1 k1 p1 ⟨w1,z1,_⟩=>?_
  refine (r.ok (c.kb k1 p1)).bind fun y w h2 s2 k2 p2 ⟨w2,z2⟩=>?_
  refine ⟨v::w,h2,rfl,KB.refl _ _,p2,⟨v,w,rfl,w1.kb k2 c.pO c.pL,w2⟩,fun f=>?_⟩
  rw[Bool.and_eq_true] at f
  exact ⟨v,w,rfl,(z1 f.1).mv (k2.mv c.pO),z2 f.2⟩
def xCb (o:OpN) (a:Xs ws):Xe ws where
 m:=fun σ h=>(a.m σ h).bind o.k
 p:=fun env s=>(a.p env s).bind fun x s1=>.of (o.p x) s1
 fz:=true
 fr:=o.fr
 ok {q h L B O σ env s} c:=by
  refine (a.ok c).bind fun x v h1 s1 k1 p1 ⟨w1,_⟩=>?_
  cases e:o.p x with
  | none=>trivial
  | some d=>exact give k1.len p1 (o.ok (c.kb k1 p1).bd w1 e)
def ai (f:Fn) (a:Xs ws) (hz:a.fz=true:=by exact ys rfl):Xe ws where
 m:=av f.m a.m
 p:=fun env s=>(a.p env s).bind f.p
 fz:=true
 fr:=f.fr
 ok {q h L B O σ env s} c:=by
  refine (a.ok c).bind fun x v h1 s1 k1 p1 ⟨_,z⟩=>?_
  have c1:=c.kb k1 p1
  refine (f.ok c1.bd c1.pO p1 (z hz)).imp fun h' d v kb ⟨r,fr⟩=>⟨.inl r,fun _=>r,fun z=>(fr z).le k1.len⟩
def lend (d:D):Bool:=match d with
 | .lst ds=>flats ds
 | d=>flat d
def oA (f:Fn) (a:Xs ws) (hf:f.fr=true:=by exact ys rfl):Xe ws where
 m:=av f.m a.m
 p:=fun env s=>((a.p env s).bind f.p).bind fun d s=>if lend d=true then .ok d s else .bad
 fz:=true
 fr:=true
 ok {q h L B O σ env s} c:=by
  have key:Ok q h ((a.m σ h).bind f.m) ((a.p env s).bind f.p) (fun h' d v=>Rp q h' B d v∧Frs q h.length B h' d v):=by
   refine (a.ok c).bind fun x v h1 s1 k1 p1 ⟨w,_⟩=>?_
   have c1:=c.kb k1 p1
   refine (f.ok (fun o ho=>Nat.lt_of_lt_of_le (c1.bb o ho) c1.hL) c1.pb p1 (w.base c1.sub c1.bb)).imp fun h' d v kb ⟨r,fr⟩=>⟨r,(fr hf).le k1.len⟩
  show Ok q h ((a.m σ h).bind f.m) _ _
  cases e:(a.p env s).bind f.p with
  | bad=>trivial
  | exc x s1=>rw[e] at key;exact key
  | ok d s1 =>
   rw[e] at key
   obtain ⟨v,h',e1,kb,pn,r,fr⟩:=key
   rw[PR.bind_ok]
   by_cases z:lend d=true
   ·rw[if_pos z]
    have f2:Frs q h.length O h' d v:=fun ds ed=>by
     obtain ⟨n,xs,a1,a2,a3,a4⟩:=fr ds ed
     subst ed
     exact ⟨n,xs,a1,a2,a3,Rps.flat z a4⟩
    have r2:Rp q h' O d v:=by
     cases d with
     | lst ds=>exact f2.rp c.bd rfl
     | non=>exact r
     | bl b=>exact r
     | int i=>exact r
     | str i=>exact r
     | tup i=>exact Rp.flat z r
     | dic=>cases z
     | exc _=>cases z
     | pen=>cases z
    exact ⟨v,h',e1,kb,pn,.inl r2,fun _=>r2,fun _=>f2⟩
   ·rw[if_neg z];trivial
theorem gC:100000≤sizeLine:=by decide
theorem ig {q:Nat} {h:MH} {O:List Nat} {ds:List D} {xs:List PV} (bd:Bd h O) (r:Rps q h O ds xs) (hl:ds.length≤100000):Gv q h O true (newL xs h) (.lst ds):=by
 have hx:=r.length
 have m:Mv O h O (h++[MO.lst xs]):=⟨fun n hn _=>List.getElem?_append_left hn,fun o ho=>.inl ho⟩
 have m2:Mv O h (h.length::O) (h++[MO.lst xs]):=⟨fun n hn _=>List.getElem?_append_left hn,fun o ho=>by
  rcases List.mem_cons.mp ho with z|z
  ·exact .inr (by omega)
  ·exact .inl z⟩
 have g:(h++[MO.lst xs])[h.length]?=some (.lst xs):=by simp
 refine ⟨.loc h.length,[.lst xs],?_,⟨_,_,rfl,fun z=>by have:=bd _ z;omega,g,r.mv m⟩,fun _ ds' e=>?_⟩
 ·unfold newL;rw[if_pos];have:=gC;omega
 ·cases e;exact ⟨_,_,rfl,Nat.le_refl _,g,r.mv m2⟩
theorem mU {q:Nat} {h:MH} {O:List Nat} {ds:List D} {xs:List PV} (r:Rps q h O ds xs) (hl:ds.length≤100000):Gv q h O true (newT xs h) (.tup ds):=by
 have hx:=r.length
 refine ⟨.tup xs,[],?_,?_,fun _ ds' e=>by cases e⟩
 ·unfold newT;rw[if_pos (by have:=gC;omega)];simp
 ·simpa using ⟨xs,rfl,r⟩
def xLst (a:Xs ws) (hz:a.fz=true:=by exact ys rfl):Xe ws where
 m:=mLst a.m
 p:=fun env s=>(a.p env s).bind fun x s1=>if x.length≤100000 then .ok (.lst x) s1 else .bad
 fz:=true
 fr:=true
 ok {q h L B O σ env s} c:=by
  refine (a.ok c).bind fun x v h1 s1 k1 p1 ⟨_,z⟩=>?_
  by_cases hl:x.length≤100000
  ·rw[if_pos hl];exact give k1.len p1 (ig (c.kb k1 p1).bd (z hz) hl)
  ·rw[if_neg hl];trivial
def xTup (a:Xs ws) (hz:a.fz=true:=by exact ys rfl):Xe ws where
 m:=mTup a.m
 p:=fun env s=>(a.p env s).bind fun x s1=>if x.length≤100000 then .ok (.tup x) s1 else .bad
 fz:=true
 fr:=true
 ok {q h L B O σ env s} c:=by
  refine (a.ok c).bind fun x v h1 s1 k1 p1 ⟨_,z⟩=>?_
  by_cases hl:x.length≤100000
  ·rw[if_pos hl];exact give k1.len p1 (mU (z hz) hl)
  ·rw[if_neg hl];trivial
theorem Vw.bl {q:Nat} {h:MH} {L:Nat} {O:List Nat} {b:Bool} {v:PV} (w:Vw q h L O (.bl b) v):v=.bl b:=by
 rcases w with r|⟨n,xs,ds,e,_⟩
 ·exact r
 ·cases e
def PR.bl (r:PR D):PR Bool:=r.bind fun d s=>match d with
 | .bl b=>.ok b s
 | _=>.bad
@[simp] theorem PR.bl_ok {b:Bool} {s:Pen}:(PR.ok (D.bl b) s).bl=.ok b s:=rfl
def xB (a:Xe ws):Xt ws where
 m:=mB a.m
 p:=fun env s=>(a.p env s).bl
 ok {q h L B O σ env s} c:=by
  refine (a.ok c).bind fun x v h1 s1 k1 p1 ⟨w,_,_⟩=>?_
  cases x with
  | bl b=>rw[w.bl];exact ⟨b,h1,rfl,KB.refl _ _,p1,rfl⟩
  | _=>trivial
def xNot (a:Xt ws):Xt ws where
 m:=mNot a.m
 p:=fun env s=>(a.p env s).bind fun b s=>.ok (!b) s
 ok {q h L B O σ env s} c:=(a.ok c).bind fun x v h1 s1 k1 p1 e=>⟨!v,h1,rfl,KB.refl _ _,p1,by rw[e]⟩
def xAnd (a b:Xt ws):Xt ws where
 m:=mAnd a.m b.m
 p:=fun env s=>(a.p env s).bind fun x s=>if x=true then b.p env s else .ok false s
 ok {q h L B O σ env s} c:=(a.ok c).bind fun x v h1 s1 k1 p1 e=>by
  subst e
  cases x with
  | true=>simpa using b.ok (c.kb k1 p1)
  | false=>exact ⟨false,h1,rfl,KB.refl _ _,p1,rfl⟩
def xOr (a b:Xt ws):Xt ws where
 m:=mOr a.m b.m
 p:=fun env s=>(a.p env s).bind fun x s=>if x=true then .ok true s else b.p env s
 ok {q h L B O σ env s} c:=(a.ok c).bind fun x v h1 s1 k1 p1 e=>by
  subst e
  cases x with
  | false=>simpa using b.ok (c.kb k1 p1)
  | true=>exact ⟨true,h1,rfl,KB.refl _ _,p1,rfl⟩
def xTrue:Xt ws where
 m:=mTrue
 p:=fun _ s=>.ok true s
 ok {q h L B O σ env s} c:=⟨true,h,rfl,KB.refl _ _,c.pen,rfl⟩
theorem Ok.after {α β:Type} {p:Nat} {h h1:MH} {o:Out β} {r:PR α} {R:MH→α→β→Prop} (k:KB p h h1) (q:Ok p h1 o r R):Ok p h o r R:=by
 cases r with
 | bad=>trivial
 | exc c2 s2=>obtain ⟨h2,a1,a2,a3⟩:=q;exact ⟨h2,a1,k.trans a2,a3⟩
 | ok d2 s2=>obtain ⟨v2,h2,a1,a2,a3⟩:=q;exact ⟨v2,h2,a1,k.trans a2,a3⟩
theorem giveB {q L l:Nat} {h:MH} {O:List Nat} {b:Bool} {s:Pen} (pn:bD h q s):Ok q h (.ok (.bl b) h) (.ok (.bl b) s) (fun h' d v=>Vw q h' L O d v∧(true=true→Rp q h' O d v)∧(true=true→Frs q l O h' d v)) :=
 ⟨.bl b,h,rfl,KB.refl _ _,pn,.inl rfl,fun _=>rfl,fun _ ds e=>by cases e⟩
theorem blOnly {q L l:Nat} {h:MH} {O:List Nat} {o:Out PV} {r:PR D} {fz fr:Bool} {l':Nat} (k:Ok q h o r (fun h' d v=>Vw q h' L O d v∧(fz=true→Rp q h' O d v)∧(fr=true→Frs q l' O h' d v))) :
  Ok q h o (r.bl.bind fun b s=>.ok (.bl b) s) (fun h' d v=>Vw q h' L O d v∧(true=true→Rp q h' O d v)∧(true=true→Frs q l O h' d v)):=by
 cases r with
 | bad=>trivial
 | exc c s=>exact k
 | ok d s =>
  obtain ⟨v,h',e,kb,pn,w,_,_⟩:=k
  cases d with
  | bl b=>exact ⟨v,h',e,kb,pn,w,fun _=>by rw[w.bl];rfl,fun _ ds e=>by cases e⟩
  | _=>trivial
def fv (a b:Xe ws):Xe ws where
 m:=dS a.m b.m
 p:=fun env s=>(a.p env s).bl.bind fun x s=>if x=true then (b.p env s).bl.bind fun y s=>.ok (.bl y) s else .ok (.bl false) s
 fz:=true
 fr:=true
 ok {q h L B O σ env s} c:=by
  have k:=a.ok c
  show Ok q h ((a.m σ h).bind _) _ _
  cases e:a.p env s with
  | bad=>trivial
  | exc x s1 =>
   rw[e] at k
   obtain ⟨h1,e1,k1,p1⟩:=k
   rw[e1];exact ⟨h1,rfl,k1,p1⟩
  | ok d s1 =>
   rw[e] at k
   obtain ⟨v,h1,e1,k1,p1,w,_,_⟩:=k
   cases d with
   | bl x =>
    rw[w.bl] at e1
    rw[e1]
    cases x with
    | true =>
     exact Ok.after k1 (blOnly (l:=h.length) (b.ok (c.kb k1 p1)))
    | false =>
     obtain ⟨v2,h2,a1,a2,a3⟩:=giveB (L:=L) (l:=h.length) (O:=O) (b:=false) p1
     exact ⟨v2,h2,a1,k1.trans a2,a3⟩
   | _=>trivial
end
structure Xi (ws:List Nat) where
 m:Mx MIt
 p:DEnv→Pen→PR (List D)
 fz:Bool
 ok:∀{q h L B O σ env s},Cx q h L B O ws σ env s→Ok q h (m σ h) (p env s) (fun h' ds it=>Rps q h' O ds it.xs∧(∀g∈it.gd,h'[g.1]?=some (.lst g.2)∧g.1≠q)∧(fz=true→∀g∈it.gd,g.1∉O))
structure OpI where
 k:List PV→MH→Out MIt
 p:List D→Option (List D)
 ok:∀{q h L O as xs ds},q<L→q∈O→Bd h O→Vws q h L O as xs→p as=some ds→∃it,k xs h=.ok it h∧Rps q h O ds it.xs∧(∀g∈it.gd,h[g.1]?=some (.lst g.2)∧g.1≠q)∧(Rps q h O as xs→∀g∈it.gd,g.1∉O)
def D.items:D→Option (List D)
 | .lst ds=>some ds
 | .tup ds=>some ds
 | _=>none
@[simp] theorem items_lst {ds:List D}:(D.lst ds).items=some ds:=rfl
@[simp] theorem items_tup {ds:List D}:(D.tup ds).items=some ds:=rfl
noncomputable section
variable {ws:List Nat}
def xItA (o:OpI) (a:Xs ws):Xi ws where
 m:=fun σ h=>(a.m σ h).bind o.k
 p:=fun env s=>(a.p env s).bind fun x s1=>.of (o.p x) s1
 fz:=a.fz
 ok {q h L B O σ env s} c:=by
  refine (a.ok c).bind fun x v h1 s1 k1 p1 ⟨w,z⟩=>?_
  cases e:o.p x with
  | none=>trivial
  | some ds =>
   obtain ⟨it,e1,r,g1,g2⟩:=o.ok c.pL c.pO (c.kb k1 p1).bd w e
   exact ⟨it,h1,e1,KB.refl _ _,p1,r,g1,fun f=>g2 (z f)⟩
theorem Vw.seq {q:Nat} {h:MH} {L:Nat} {O:List Nat} {d:D} {v:PV} {ds:List D} (hq:q<L) (hO:q∈O) (w:Vw q h L O d v) (e:d.items=some ds):∃xs gd,itAny v h=.ok ⟨xs,gd⟩ h∧Rps q h O ds xs∧(∀g∈gd,h[g.1]?=some (.lst g.2)∧g.1≠q)∧(Rp q h O d v→∀g∈gd,g.1∉O):=by
 have one:∀n xs,h[n]?=some (MO.lst xs)→n≠q→(∀g∈[(n,xs)],h[g.1]?=some (MO.lst g.2)∧g.1≠q):=fun n xs g hn y hy=>by
  have:y=(n,xs):=by simpa using hy
  subst this;exact ⟨g,hn⟩
 cases d with
 | lst es =>
  have:es=ds:=by simpa [D.items] using e
  subst this
  rcases w with ⟨n,xs,e1,no,g,r⟩|⟨n,xs,es',e0,e1,_,hn,g,r⟩
  ·subst e1
   refine ⟨xs,[(n,xs)],by simp only[itAny,g],r,one n xs g (fun z=>no (z▸hO)),fun _ y hy=>?_⟩
   have:y=(n,xs):=by simpa using hy
   subst this;exact no
  ·cases e0;subst e1
   refine ⟨xs,[(n,xs)],by simp only[itAny,g],r,one n xs g (by omega),fun ⟨n',xs',e1,no,_⟩ y hy=>?_⟩
   have:y=(n,xs):=by simpa using hy
   subst this;cases e1;exact no
 | tup es =>
  have:es=ds:=by simpa [D.items] using e
  subst this
  rcases w with ⟨xs,e1,r⟩|⟨n,xs,es',e0,_⟩
  ·subst e1;exact ⟨xs,[],rfl,r,(fun _ hy=>nomatch hy),fun _ _ hy=>nomatch hy⟩
  ·cases e0
 | _=>simp[D.items] at e
def xItS (a:Xe ws):Xi ws where
 m:=mItS a.m
 p:=fun env s=>(a.p env s).bind fun x s1=>.of x.items s1
 fz:=a.fz
 ok {q h L B O σ env s} c:=by
  refine (a.ok c).bind fun x v h1 s1 k1 p1 ⟨w,z,_⟩=>?_
  cases e:x.items with
  | none=>trivial
  | some ds =>
   obtain ⟨xs,gd,e1,r,g1,g2⟩:=w.seq c.pL c.pO e
   exact ⟨⟨xs,gd⟩,h1,e1,KB.refl _ _,p1,r,g1,fun f=>g2 (z f)⟩
structure Xg (ws:List Nat) where
 m:Mg
 p:D→DEnv→Option DEnv
 ok:∀{q h L O σ env d v env'},SR q h L O ws σ env→Rp q h O d v→p d env=some env'→∃σ',m v σ h=.nx σ' h∧SR q h L O ws σ' env'∧∀i∈ws,σ'[i]?=σ[i]?∧env'[i]?=env[i]?
structure Xgs (ws:List Nat) where
 m:Mgs
 p:List D→DEnv→Option DEnv
 ok:∀{q h L O σ env ds vs env'},SR q h L O ws σ env→Rps q h O ds vs→p ds env=some env'→∃σ',m vs σ h=.nx σ' h∧SR q h L O ws σ' env'∧∀i∈ws,σ'[i]?=σ[i]?∧env'[i]?=env[i]?
theorem SR.set {q:Nat} {h:MH} {L:Nat} {O:List Nat} {σ:PSt} {env:DEnv} {d:D} {v:PV} {i:Nat} (r:SR q h L O ws σ env) (hi:i∉ws) (w:Rp q h O d v):SR q h L O ws (σ.set i (some v)) (env.set i (some d))∧∀j∈ws,(σ.set i (some v))[j]?=σ[j]?∧(env.set i (some d))[j]?=env[j]?:=by
 have ne:∀j∈ws,i≠j:=fun j hj z=>hi (z▸hj)
 refine ⟨⟨by simp[r.len],fun j e hj hw=>?_,fun j e hj hw=>?_⟩,fun j hj=>⟨List.getElem?_set_ne (ne j hj),List.getElem?_set_ne (ne j hj)⟩⟩
 ·by_cases z:i=j
  ·subst z
   have hl:i<env.length:=by
    have:=(List.getElem?_eq_some_iff.mp hj).1;simpa using this
   rw[List.getElem?_set_self hl] at hj
   cases hj
   exact ⟨v,List.getElem?_set_self (by rw[r.len];exact hl),w⟩
  ·rw[List.getElem?_set_ne z] at hj
   obtain ⟨u,e1,q1⟩:=r.fz j e hj hw
   exact ⟨u,by rw[List.getElem?_set_ne z];exact e1,q1⟩
 ·rw[List.getElem?_set_ne (ne j hw)] at hj
  obtain ⟨n,xs,ds,e1,e2,rest⟩:=r.ow j e hj hw
  exact ⟨n,xs,ds,e1,by rw[List.getElem?_set_ne (ne j hw)];exact e2,rest⟩
def xNm (i:Nat) (hi:ws.contains i=false:=by exact ys rfl):Xg ws where
 m:=gNm i
 p:=fun d env=>some (env.set i (some d))
 ok {q h L O σ env d v env'} r w e:=by
  cases e
  have hi':i∉ws:=fun z=>by simp[z] at hi
  obtain ⟨a,b⟩:=r.set hi' w
  exact ⟨_,rfl,a,b⟩
def xGl:Xgs ws where
 m:=gNl
 p:=fun ds env=>match ds with
  | []=>some env
  | _=>none
 ok {q h L O σ env ds vs env'} r w e:=by
  cases ds with
  | nil =>
   cases e
   have:vs=[]:=w
   subst this
   exact ⟨σ,rfl,r,fun _ _=>⟨rfl,rfl⟩⟩
  | cons _ _=>cases e
def xGc (a:Xg ws) (t:Xgs ws):Xgs ws where
 m:=gCn a.m t.m
 p:=fun ds env=>match ds with
  | d::ds=>(a.p d env).bind fun env1=>t.p ds env1
  | []=>none
 ok {q h L O σ env ds vs env'} r w e:=by
  cases ds with
  | nil=>cases e
  | cons d ds =>
   obtain ⟨x,y,rfl,r1,r2⟩:=w
   dsimp only at e
   cases e1:a.p d env with
   | none=>rw[e1] at e;cases e
   | some env1 =>
    rw[e1] at e
    obtain ⟨σ1,f1,s1,k1⟩:=a.ok r r1 e1
    obtain ⟨σ2,f2,s2,k2⟩:=t.ok s1 r2 e
    exact ⟨σ2,by show (a.m x σ h).then (t.m y)=_;rw[f1];exact f2,s2,fun i hi=>⟨(k2 i hi).1.trans (k1 i hi).1,(k2 i hi).2.trans (k1 i hi).2⟩⟩
def xGp (t:Xgs ws) (n:Nat):Xg ws where
 m:=gTp t.m n
 p:=fun d env=>match d with
  | .tup ds=>if ds.length=n then t.p ds env else none
  | _=>none
 ok {q h L O σ env d v env'} r w e:=by
  cases d with
  | tup ds =>
   obtain ⟨xs,rfl,w⟩:=w
   dsimp only at e
   by_cases z:ds.length=n
   ·rw[if_pos z] at e
    obtain ⟨σ',a,b⟩:=t.ok r w e
    exact ⟨σ',by show (if xs.length=n then t.m xs σ h else .bad)=_;rw[if_pos (by rw[w.length];exact z)];exact a,b⟩
   ·rw[if_neg z] at e;cases e
  | _=>cases e
def cws (nv:Nat) (fm ws:List Nat):List Nat:=((List.range fm.length).filter fun j=>ws.contains (fm.getD j 0)).map (nv+·)
def cenv (nv:Nat) (fm:List Nat) (env:DEnv):DEnv:=List.replicate nv none++fm.map fun i=>(env[i]?).getD none
def PR.ne {α:Type} (r:PR α):PR α:=match r with
 | .exc _ _=>.bad
 | r=>r
@[simp] theorem PR.ne_ok {α:Type} (a:α) (s:Pen):(PR.ok a s).ne=.ok a s:=rfl
def bB (g:D→DEnv→Option DEnv) (t:DEnv→Pen→PR Bool) (e:DEnv→Pen→PR D):List D→DEnv→Pen→PR (List D)
 | [],_,s=>.ok [] s
 | d::ds,env,s=>match g d env with
  | none=>.bad
  | some env1=>(t env1 s).bind fun b s1=>if b=true then (e env1 s1).bind fun x s2=>(bB g t e ds env1 s2).bind fun r s3=>.ok (x::r) s3 else bB g t e ds env1 s1
theorem cget {nv:Nat} {fm:List Nat} {α:Type} {env:List (Option α)} {i:Nat} {d:α} (e:(List.replicate nv none++fm.map fun i=>(env[i]?).getD none)[i]?=some (some d)):∃j k,i=nv+j∧fm[j]?=some k∧env[k]?=some (some d):=by
 by_cases z:i<nv
 ·rw[List.getElem?_append_left (by simpa using z)] at e
  simp[z] at e
 ·rw[List.getElem?_append_right (by simp;omega)] at e
  simp only[List.length_replicate,List.getElem?_map] at e
  cases ek:fm[i - nv]? with
  | none=>rw[ek] at e;cases e
  | some k =>
   rw[ek] at e
   simp only[Option.map_some,Option.some.injEq] at e
   refine ⟨i - nv,k,by omega,ek,?_⟩
   cases z2:env[k]? with
   | none=>rw[z2] at e;cases e
   | some o=>rw[z2] at e;simp at e;rw[e]
theorem cput {nv:Nat} {fm:List Nat} {α:Type} {σ:List (Option α)} {j k:Nat} {v:α} (e1:fm[j]?=some k) (e2:σ[k]?=some (some v)):(List.replicate nv none++fm.map fun i=>(σ[i]?).getD none)[nv+j]?=some (some v):=by
 rw[List.getElem?_append_right (by simp)]
 simp[e1,e2]
theorem nL {nv:Nat} {fm ws:List Nat} {j k:Nat} (e:fm[j]?=some k):nv+j∈cws nv fm ws↔k∈ws:=by
 have hj:=(List.getElem?_eq_some_iff.mp e).1
 have hk:fm.getD j 0=k:=by simp[List.getD,e]
 unfold cws
 rw[List.mem_map]
 constructor
 ·rintro ⟨a,ha,hb⟩
  have:a=j:=by omega
  subst this
  rw[List.mem_filter] at ha
  have:=ha.2
  rw[hk] at this
  simpa using this
 ·intro hw
  exact ⟨j,List.mem_filter.mpr ⟨List.mem_range.mpr hj,by rw[hk];simpa using hw⟩,rfl⟩
theorem SR.comp {q:Nat} {h:MH} {L:Nat} {O:List Nat} {σ:PSt} {env:DEnv} (nv:Nat) (fm:List Nat) (r:SR q h L O ws σ env):SR q h L O (cws nv fm ws) (cSt nv fm σ) (cenv nv fm env):=by
 refine ⟨by simp[cSt,cenv],fun i d e hi=>?_,fun i d e hi=>?_⟩
 ·obtain ⟨j,k,rfl,e1,e2⟩:=cget e
  obtain ⟨v,e3,w⟩:=r.fz k d e2 fun z=>hi ((nL e1).mpr z)
  exact ⟨v,cput e1 e3,w⟩
 ·obtain ⟨j,k,rfl,e1,e2⟩:=cget e
  obtain ⟨n,xs,ds,e0,e3,w⟩:=r.ow k d e2 ((nL e1).mp hi)
  exact ⟨n,xs,ds,e0,cput e1 e3,w⟩
theorem lV {ws':List Nat} (gt:Xg ws') (t:Xt ws') (e:Xe ws') (hz:e.fz=true) {q L:Nat} {h1:MH} {B O:List Nat} {it:MIt} (hq:q<h1.length) (gd:∀g∈it.gd,h1[g.1]?=some (.lst g.2)∧g.1≠q) :
  ∀(ds:List D) (xs:List PV) (env:DEnv) (σ:PSt) (h:MH) (accD:List D) (acc:List PV) (s:Pen) (r:List D) (s':Pen),(∀i∈ws',∀d,env[i]?=some (some d)→∀n,σ[i]?=some (some (.loc n))→n<h1.length)→KB q h1 h→Cx q h L B (h1.length::O) ws' σ env s→Rps q h (h1.length::O) ds xs→h[h1.length]?=some (.lst acc)→Rps q h (h1.length::O) accD acc→accD.length+ds.length≤100000 →
  bB gt.p t.p e.p ds env s=.ok r s'→∃h' zs,cGo it h1.length gt.m t.m e.m xs σ h=.ok () h'∧KB q h1 h'∧bD h' q s'∧h'[h1.length]?=some (.lst zs)∧Rps q h' (h1.length::O) (accD++r) zs
 | [],xs,env,σ,h,accD,acc,s,r,s',on,kb,c,rx,ga,ra,hl,ep=>by
  have:xs=[]:=rx
  subst this
  cases ep
  have ok:it.ok h:=fun g hg=>(kb.keep _ (aW (gd g hg).1) (gd g hg).2).trans (gd g hg).1
  exact ⟨h,acc,by rw[cGo,if_pos ok],kb,c.pen,ga,by simpa using ra⟩
 | d::ds,xs,env,σ,h,accD,acc,s,r,s',on,kb,c,rx,ga,ra,hl,ep=>by
  obtain ⟨x,xr,rfl,r1,r2⟩:=rx
  have ok:it.ok h:=fun g hg=>(kb.keep _ (aW (gd g hg).1) (gd g hg).2).trans (gd g hg).1
  rw[bB] at ep
  cases eg:gt.p d env with
  | none=>rw[eg] at ep;cases ep
  | some env1 =>
   rw[eg] at ep
   dsimp only at ep
   obtain ⟨σ1,f1,sr1,k1⟩:=gt.ok c.sr r1 eg
   have on1:∀i∈ws',∀d,env1[i]?=some (some d)→∀n,σ1[i]?=some (some (.loc n))→n<h1.length:=fun i hi d e n z=>on i hi d ((k1 i hi).2▸e) n ((k1 i hi).1▸z)
   have c1:Cx q h L B (h1.length::O) ws' σ1 env1 s:=⟨c.bd,c.sub,c.bb,c.pb,c.hL,c.pen,sr1⟩
   have kt:=t.ok c1
   cases et:t.p env1 s with
   | bad=>rw[et] at ep;cases ep
   | exc _ _=>rw[et] at ep;cases ep
   | ok b s1 =>
    rw[et] at ep kt
    obtain ⟨b',h2,f2,k2,p2,eb⟩:=kt
    subst eb
    have c2:=c1.kb k2 p2
    have mv2:Mv (h1.length::O) h (h1.length::O) h2:=k2.mv c.pO
    have hn:h1.length<h.length:=aW ga
    have ga2:h2[h1.length]?=some (.lst acc):=(k2.keep _ hn (by omega)).trans ga
    rw[PR.bind_ok] at ep
    cases b with
    | false =>
     rw[if_neg (by simp)] at ep
     obtain ⟨h',zs,a1,a2⟩:=lV gt t e hz hq gd ds xr env1 σ1 h2 accD acc s1 r s' on1 (kb.trans k2) c2 (r2.mv mv2) ga2 (ra.mv mv2) (by simp at hl;omega) ep
     refine ⟨h',zs,?_,a2⟩
     rw[cGo,if_pos ok,f1]
     simp only[f2,Out.ne_ok,Out.bind_ok,Bool.false_eq_true,if_false]
     exact a1
    | true =>
     rw[if_pos rfl] at ep
     have ke:=e.ok c2
     cases ee:e.p env1 s1 with
     | bad=>rw[ee] at ep;cases ep
     | exc _ _=>rw[ee] at ep;cases ep
     | ok y s2 =>
      rw[ee] at ep ke
      obtain ⟨v,h3,f3,k3,p3,_,rv,_⟩:=ke
      have rv:=rv hz
      have c3:=c2.kb k3 p3
      have mv3:Mv (h1.length::O) h2 (h1.length::O) h3:=k3.mv c.pO
      have ga3:h3[h1.length]?=some (.lst acc):=(k3.keep _ (aW ga2) (by omega)).trans ga2
      have mv4:Mv (h1.length::O) h3 (h1.length::O) (h3.set h1.length (.lst (acc++[v]))) :=
       ⟨fun n hn no=>List.getElem?_set_ne (fun z=>no (by simp[z])),fun o ho=>.inl ho⟩
      have ra3:Rps q h3 (h1.length::O) (accD++[y]) (acc++[v]):=((ra.mv mv2).mv mv3).app ⟨v,[],rfl,rv,rfl⟩
      rw[PR.bind_ok] at ep
      cases er:bB gt.p t.p e.p ds env1 s2 with
      | bad=>rw[er] at ep;cases ep
      | exc _ _=>rw[er] at ep;cases ep
      | ok r' s3 =>
       rw[er] at ep
       cases ep
       have k03:KB q h1 h3:=(kb.trans k2).trans k3
       have c4:Cx q (h3.set h1.length (.lst (acc++[v]))) L B (h1.length::O) ws' σ1 env1 s2:=by
        refine ⟨fun o ho=>by simpa using c3.bd o ho,c3.sub,c3.bb,c3.pb,by simpa using c3.hL,?_,?_⟩
        ·unfold bD;rw[List.getElem?_set_ne (by omega)];exact p3
        ·refine ⟨c3.sr.len,fun i d e hi=>let ⟨v,e1,q1⟩:=c3.sr.fz i d e hi;⟨v,e1,q1.mv mv4⟩,fun i d e hi=>?_⟩
         obtain ⟨n,ys,es,b1,b2,b3,b4,b5,b6⟩:=c3.sr.ow i d e hi
         have z:=on1 i hi d e n b2
         exact ⟨n,ys,es,b1,b2,b3,b4,by rw[List.getElem?_set_ne (by omega)];exact b5,b6.mv mv4⟩
       obtain ⟨h',zs,a1,a2,a3,a4,a5⟩:=lV gt t e hz hq gd ds xr env1 σ1 (h3.set h1.length (.lst (acc++[v]))) (accD++[y]) (acc++[v]) s2 r' _ on1 ⟨by simpa using k03.len,fun n hn hp=>by rw[List.getElem?_set_ne (by omega)];exact k03.keep n hn hp⟩ c4 (((r2.mv mv2).mv mv3).mv mv4) (List.getElem?_set_self (aW ga3)) (ra3.mv mv4) (by simp at hl ⊢;omega) er
       refine ⟨h',zs,?_,a2,a3,a4,by simpa using a5⟩
       rw[cGo,if_pos ok,f1]
       simp only[f2,Out.ne_ok,Out.bind_ok,if_true,f3,ga3]
       rw[if_pos (by have:=gC;have:=ra.length;simp at hl;omega)]
       exact a1
def aP (nv:Nat) (fm:List Nat) (i:Xi ws) {ws':List Nat} (g:Xg ws') (t:Xt ws') (e:Xe ws') (hw:cws nv fm ws=ws':=by exact ys rfl) (hz:e.fz=true:=by exact ys rfl):Xe ws where
 m:=aY nv fm i.m g.m t.m e.m
 p:=fun env s=>(i.p env s).bind fun ds s1=>if ds.length≤100000 then (match bB g.p t.p e.p ds (cenv nv fm env) s1 with
  | .ok r s2=>.ok (.lst r) s2
  | _=>.bad) else .bad
 fz:=true
 fr:=true
 ok {q h L B O σ env s} c:=by
  subst hw
  refine (i.ok c).bind fun ds it h1 s1 k1 p1 ⟨rx,gd,_⟩=>?_
  have c1:=c.kb k1 p1
  by_cases hl:ds.length≤100000
  ·rw[if_pos hl]
   cases er:bB g.p t.p e.p ds (cenv nv fm env) s1 with
   | bad=>trivial
   | exc _ _=>trivial
   | ok r s2 =>
    have mv:Mv O h1 (h1.length::O) (h1++[MO.lst []]):=⟨fun n hn _=>List.getElem?_append_left hn,fun o ho=>by
     rcases List.mem_cons.mp ho with z|z
     ·exact .inr (by omega)
     ·exact .inl z⟩
    have sr:=(c1.sr.comp nv fm).mv mv (fun o ho=>List.mem_cons_of_mem _ ho) fun n hn _ _=>List.getElem?_append_left hn
    have c2:Cx q (h1++[MO.lst []]) L B (h1.length::O) (cws nv fm ws) (cSt nv fm σ) (cenv nv fm env) s1:=by
     refine ⟨fun o ho=>?_,fun o ho=>List.mem_cons_of_mem _ (c.sub o ho),c.bb,c.pb,by have:=c1.hL;simp;omega,p1.app,sr⟩
     rcases List.mem_cons.mp ho with z|z
     ·subst z;simp
     ·have:=c1.bd o z;simp;omega
    have hq:q<h1.length:=aW p1
    obtain ⟨h',zs,a1,a2,a3,a4,a5⟩:=lV g t e hz (L:=L) (B:=B) (O:=O) hq gd ds it.xs (cenv nv fm env) (cSt nv fm σ) (h1++[MO.lst []]) [] [] s1 r s2 (fun i hi d ed n en=>by
     obtain ⟨n',_,_,_,b2,_,_,b5,_⟩:=(c1.sr.comp nv fm).ow i d ed hi
     rw[b2] at en
     cases en
     exact aW b5) (KB.app _ _ _) c2 (rx.mv mv) (by simp) rfl (by simpa using hl) er
    have f:Frs q h.length O h' (.lst r) (.loc h1.length):=fun ds e=>by
     cases e;exact ⟨_,zs,rfl,k1.len,a4,by simpa using a5⟩
    have rr:=f.rp c.bd rfl
    exact ⟨.loc h1.length,h',by show (cGo _ _ _ _ _ _ _ _).bind _=_;rw[a1];rfl,a2,a3,.inl rr,fun _=>rr,fun _=>f⟩
  ·rw[if_neg hl];trivial
end
end PU
namespace PU
open PySem MM
noncomputable local instance (priority:=1) cdecN4 (p:Prop):Decidable p:=Classical.propDecidable p
inductive PS where
 | nx (e:DEnv) (s:Pen)
 | rt (d:D) (s:Pen)
 | bk (e:DEnv) (s:Pen)
 | ct (e:DEnv) (s:Pen)
 | exc (c:Str) (e:DEnv) (s:Pen)
 | rse (c:Str) (e:DEnv) (s:Pen)
 | bad
structure Stp (q L:Nat) (h:MH) (O:List Nat) (h':MH) (O':List Nat):Prop where
 len:h.length≤h'.length
 mv:Mv O h O' h'
 sub:∀o∈O,o∈O'
 base:∀n:Nat,n<L→n≠q→h'[n]?=h[n]?
theorem Stp.refl (q L:Nat) (h:MH) (O:List Nat):Stp q L h O h O:=⟨Nat.le_refl _,⟨fun _ _ _=>rfl,fun _ h=>.inl h⟩,fun _ h=>h,fun _ _ _=>rfl⟩
theorem Stp.trans {q L:Nat} {h h1 h2:MH} {O O1 O2:List Nat} (a:Stp q L h O h1 O1) (b:Stp q L h1 O1 h2 O2):Stp q L h O h2 O2:=by
 refine ⟨Nat.le_trans a.len b.len,⟨fun n hn no=>?_,fun o ho=>?_⟩,fun o ho=>b.sub o (a.sub o ho),fun n hn hq=>(b.base n hn hq).trans (a.base n hn hq)⟩
 ·have n1:n∉O1:=fun z=>by
   rcases a.mv.new n z with q|q
   ·exact no q
   ·omega
  exact (b.mv.keep n (Nat.lt_of_lt_of_le hn a.len) n1).trans (a.mv.keep n hn no)
 ·rcases b.mv.new o ho with z|z
  ·exact a.mv.new o z
  ·exact .inr (Nat.le_trans a.len z)
def Dis (ws:List Nat) (σ:PSt) (env:DEnv):Prop:=∀i j,i∈ws→j∈ws→i≠j→∀d d' n,env[i]?=some (some d)→env[j]?=some (some d')→σ[i]?=some (some (.loc n))→σ[j]?≠some (some (.loc n))
def Nxt (q L:Nat) (h:MH) (B O ws:List Nat) (σ':PSt) (h':MH) (env:DEnv) (s:Pen):Prop:=∃O',Stp q L h O h' O'∧Cx q h' L B O' ws σ' env s∧Dis ws σ' env
def SOk (q L:Nat) (h:MH) (B O ws:List Nat) (fr:Bool) (o:SOut) (r:PS):Prop:=match r with
 | .nx env s=>∃σ' h',o=.nx σ' h'∧Nxt q L h B O ws σ' h' env s
 | .bk env s=>∃σ' h',o=.bk σ' h'∧Nxt q L h B O ws σ' h' env s
 | .ct env s=>∃σ' h',o=.ct σ' h'∧Nxt q L h B O ws σ' h' env s
 | .exc c env s=>∃σ' h',o=.exc ⟨c,[]⟩ σ' h'∧Nxt q L h B O ws σ' h' env s
 | .rse c env s=>∃σ' h',o=.rse ⟨c,[]⟩ σ' h'∧Nxt q L h B O ws σ' h' env s
 | .rt d s=>∃v h',o=.rt v h'∧h.length≤h'.length∧(∀n:Nat,n<L→n≠q→h'[n]?=h[n]?)∧bD h' q s∧Rp q h' B d v∧(fr=true→Frs q L B h' d v)
 | .bad=>True
structure Xd (ws:List Nat) where
 m:Mst
 p:DEnv→Pen→PS
 fr:Bool
 ok:∀{q h L B O σ env s},Cx q h L B O ws σ env s→Dis ws σ env→SOk q L h B O ws fr (m σ h) (p env s)
theorem Nxt.after {q L:Nat} {h h1:MH} {B O O1 ws:List Nat} {σ':PSt} {h':MH} {env:DEnv} {s:Pen} (a:Stp q L h O h1 O1) (n:Nxt q L h1 B O1 ws σ' h' env s):Nxt q L h B O ws σ' h' env s :=
 let ⟨O',b,c⟩:=n;⟨O',a.trans b,c⟩
theorem SOk.after {q L:Nat} {h h1:MH} {B O O1 ws:List Nat} {fr:Bool} {o:SOut} {r:PS} (a:Stp q L h O h1 O1) (k:SOk q L h1 B O1 ws fr o r):SOk q L h B O ws fr o r:=by
 cases r with
 | nx env s=>obtain ⟨σ',h',e,n⟩:=k;exact ⟨σ',h',e,n.after a⟩
 | bk env s=>obtain ⟨σ',h',e,n⟩:=k;exact ⟨σ',h',e,n.after a⟩
 | ct env s=>obtain ⟨σ',h',e,n⟩:=k;exact ⟨σ',h',e,n.after a⟩
 | exc c env s=>obtain ⟨σ',h',e,n⟩:=k;exact ⟨σ',h',e,n.after a⟩
 | rse c env s=>obtain ⟨σ',h',e,n⟩:=k;exact ⟨σ',h',e,n.after a⟩
 | rt d s=>obtain ⟨v,h',e,l,b,r⟩:=k;exact ⟨v,h',e,Nat.le_trans a.len l,fun n hn hq=>(b n hn hq).trans (a.base n hn hq),r⟩
 | bad=>trivial
theorem SOk.fr {q L:Nat} {h:MH} {B O ws:List Nat} {f f':Bool} {o:SOut} {r:PS} (hf:f'=true→f=true) (k:SOk q L h B O ws f o r):SOk q L h B O ws f' o r:=by
 cases r with
 | rt d s=>obtain ⟨v,h',e,l,b,p,r,z⟩:=k;exact ⟨v,h',e,l,b,p,r,fun y=>z (hf y)⟩
 | nx env s=>exact k
 | bk env s=>exact k
 | ct env s=>exact k
 | exc c env s=>exact k
 | rse c env s=>exact k
 | bad=>trivial
theorem KB.stp {q L:Nat} {h h':MH} {B O ws:List Nat} {σ:PSt} {env:DEnv} {s:Pen} (c:Cx q h L B O ws σ env s) (k:KB q h h'):Stp q L h O h' O :=
 ⟨k.len,k.mv c.pO,fun _ h=>h,fun n hn hq=>k.keep n (Nat.lt_of_lt_of_le hn c.hL) hq⟩
def PR.go {α:Type} (r:PR α) (env:DEnv) (k:α→DEnv→Pen→PS):PS:=match r with
 | .ok a s=>k a env s
 | .exc c s=>.exc c env s
 | .bad=>.bad
@[simp] theorem PR.go_ok {α:Type} (a:α) (s:Pen) (env:DEnv) (k:α→DEnv→Pen→PS):(PR.ok a s).go env k=k a env s:=rfl
@[simp] theorem PR.go_exc {α:Type} (c:Str) (s:Pen) (env:DEnv) (k:α→DEnv→Pen→PS):(PR.exc c s:PR α).go env k=.exc c env s:=rfl
@[simp] theorem PR.go_bad {α:Type} (env:DEnv) (k:α→DEnv→Pen→PS):(PR.bad:PR α).go env k=.bad:=rfl
theorem SOk.ex {α β:Type} {q L:Nat} {h:MH} {B O ws:List Nat} {fr:Bool} {σ:PSt} {env:DEnv} {s:Pen} {o:Out β} {r:PR α} {R:MH→α→β→Prop} {f:β→Mst} {g:α→DEnv→Pen→PS} (c:Cx q h L B O ws σ env s) (d:Dis ws σ env) (k:Ok q h o r R)
  (n:∀a b h1 s1,KB q h h1→Cx q h1 L B O ws σ env s1→R h1 a b→SOk q L h1 B O ws fr (f b σ h1) (g a env s1)) :
  SOk q L h B O ws fr (o.go σ f) (r.go env g):=by
 cases r with
 | ok a s1 =>
  obtain ⟨b,h1,rfl,kb,pn,rr⟩:=k
  exact (n a b h1 s1 kb (c.kb kb pn) rr).after (kb.stp c)
 | exc x s1 =>
  obtain ⟨h1,rfl,kb,pn⟩:=k
  exact ⟨σ,h1,rfl,O,kb.stp c,c.kb kb pn,d⟩
 | bad=>trivial
noncomputable section
variable {ws:List Nat}
def PS.then (r:PS) (k:DEnv→Pen→PS):PS:=match r with
 | .nx env s=>k env s
 | r=>r
@[simp] theorem aw {env:DEnv} {s:Pen} {k:DEnv→Pen→PS}:(PS.nx env s).then k=k env s:=rfl
@[simp] theorem ny {d:D} {s:Pen} {k:DEnv→Pen→PS}:(PS.rt d s).then k=.rt d s:=rfl
@[simp] theorem then_bk {env:DEnv} {s:Pen} {k:DEnv→Pen→PS}:(PS.bk env s).then k=.bk env s:=rfl
@[simp] theorem then_ct {env:DEnv} {s:Pen} {k:DEnv→Pen→PS}:(PS.ct env s).then k=.ct env s:=rfl
@[simp] theorem qH {c:Str} {env:DEnv} {s:Pen} {k:DEnv→Pen→PS}:(PS.exc c env s).then k=.exc c env s:=rfl
@[simp] theorem rl {c:Str} {env:DEnv} {s:Pen} {k:DEnv→Pen→PS}:(PS.rse c env s).then k=.rse c env s:=rfl
@[simp] theorem qM {k:DEnv→Pen→PS}:PS.bad.then k=.bad:=rfl
def xSeq (a b:Xd ws):Xd ws where
 m:=mSeq a.m b.m
 p:=fun env s=>(a.p env s).then b.p
 fr:=a.fr && b.fr
 ok {q h L B O σ env s} c d:=by
  have k:=a.ok c d
  show SOk q L h B O ws _ ((a.m σ h).then b.m) _
  cases e:a.p env s with
  | nx env1 s1 =>
   rw[e] at k
   obtain ⟨σ1,h1,e1,O1,st,c1,d1⟩:=k
   rw[e1]
   exact ((b.ok c1 d1).fr (by simp)).after st
  | rt x s1=>rw[e] at k;obtain ⟨v,h',e1,r⟩:=k;rw[e1];exact SOk.fr (f:=a.fr) (by simp;exact fun h _=>h) (show SOk q L h B O ws a.fr (.rt v h') (.rt x s1) from ⟨v,h',rfl,r⟩)
  | bk env1 s1=>rw[e] at k;obtain ⟨σ',h',e1,r⟩:=k;rw[e1];exact ⟨σ',h',rfl,r⟩
  | ct env1 s1=>rw[e] at k;obtain ⟨σ',h',e1,r⟩:=k;rw[e1];exact ⟨σ',h',rfl,r⟩
  | exc x env1 s1=>rw[e] at k;obtain ⟨σ',h',e1,r⟩:=k;rw[e1];exact ⟨σ',h',rfl,r⟩
  | rse x env1 s1=>rw[e] at k;obtain ⟨σ',h',e1,r⟩:=k;rw[e1];exact ⟨σ',h',rfl,r⟩
  | bad=>trivial
def xSkip:Xd ws where
 m:=mSkip
 p:=.nx
 fr:=true
 ok {q h L B O σ env s} c d:=⟨σ,h,rfl,O,Stp.refl _ _ _ _,c,d⟩
theorem ret_go {m:Mx PV} {σ:PSt} {h:MH}:mRet m σ h=(m σ h).go σ fun v _ h'=>.rt v h':=by unfold mRet;cases m σ h <;> rfl
def xRet (e:Xe ws):Xd ws where
 m:=mRet e.m
 p:=fun env s=>(e.p env s).go env fun d _ s=>.rt d s
 fr:=e.fr
 ok {q h L B O σ env s} c d:=by
  rw[ret_go]
  refine SOk.ex (f:=fun v _ h'=>.rt v h') (g:=fun d _ s=>.rt d s) c d (e.ok c) fun x v h1 s1 kb c1 ⟨w,z,f⟩=>?_
  refine ⟨v,h1,rfl,Nat.le_refl _,fun _ _ _=>rfl,c1.pen,w.base c1.sub c1.bb,fun y=>?_⟩
  intro ds ed
  obtain ⟨n,xs,a1,a2,a3,a4⟩:=f y ds ed
  have:=c.hL
  exact ⟨n,xs,a1,by omega,a3,a4.mv ⟨fun _ _ _=>rfl,fun o ho=>.inl (by
   rcases List.mem_cons.mp ho with z|z
   ·subst z;simp
   ·exact List.mem_cons_of_mem _ (c.sub o z))⟩⟩
def oo (i:Nat) (hi:ws.contains i=true:=by exact ys rfl):Xd ws where
 m:=mRet (mVar i)
 p:=fun env s=>match env[i]? with
  | some (some d)=>.rt d s
  | _=>.bad
 fr:=true
 ok {q h L B O σ env s} c d:=by
  show SOk q L h B O ws _ _ (match env[i]? with | some (some d)=>PS.rt d s | _=>.bad)
  cases e:env[i]? with
  | none=>trivial
  | some o =>
   cases o with
   | none=>trivial
   | some x =>
    obtain ⟨n,xs,ds,e1,e2,a,b,g,r⟩:=c.sr.ow i x e (by simpa using hi)
    subst e1
    have m1:Mv O h (n::B) h:=⟨fun _ _ _=>rfl,fun o ho=>.inl (by
     rcases List.mem_cons.mp ho with z|z
     ·subst z;exact a
     ·exact c.sub o z)⟩
    have f:Frs q L B h (.lst ds) (.loc n):=fun ds' e=>by cases e;exact ⟨n,xs,rfl,b,g,r.mv m1⟩
    refine ⟨.loc n,h,by simp[mRet,mVar,e2],Nat.le_refl _,fun _ _ _=>rfl,c.pen,f.rp c.bb rfl,fun _=>f⟩
def xIf (t:Xt ws) (a b:Xd ws):Xd ws where
 m:=mIf t.m a.m b.m
 p:=fun env s=>(t.p env s).go env fun x env s=>if x=true then a.p env s else b.p env s
 fr:=a.fr && b.fr
 ok {q h L B O σ env s} c d:=SOk.ex (f:=fun x=>if x=true then a.m else b.m) (g:=fun x env s=>if x=true then a.p env s else b.p env s) c d (t.ok c) fun x v h1 s1 kb c1 e=>by
  subst e
  cases x with
  | true=>exact (a.ok c1 d).fr (by simp;exact fun h _=>h)
  | false=>exact (b.ok c1 d).fr (by simp)
theorem Dis.keep {σ σ':PSt} {env env':DEnv} (d:Dis ws σ env) (k:∀i∈ws,σ'[i]?=σ[i]?∧env'[i]?=env[i]?):Dis ws σ' env':=fun i j hi hj ne x y n a b e=>by
 rw[(k i hi).1] at e
 rw[(k i hi).2] at a
 rw[(k j hj).2] at b
 rw[(k j hj).1]
 exact d i j hi hj ne x y n a b e
def xSet (i:Nat) (e:Xe ws) (hi:ws.contains i=false:=by exact ys rfl) (hz:e.fz=true:=by exact ys rfl):Xd ws where
 m:=mSet i e.m
 p:=fun env s=>(e.p env s).go env fun d env s=>.nx (env.set i (some d)) s
 fr:=true
 ok {q h L B O σ env s} c d:=by
  refine SOk.ex (f:=fun v σ h=>.nx (σ.set i (some v)) h) (g:=fun d env s=>.nx (env.set i (some d)) s) c d (e.ok c) fun x v h1 s1 kb c1 ⟨_,z,_⟩=>?_
  obtain ⟨a,b⟩:=c1.sr.set (i:=i) (fun z=>by simp[z] at hi) (z hz)
  exact ⟨_,h1,rfl,O,Stp.refl _ _ _ _,⟨c1.bd,c1.sub,c1.bb,c1.pb,c1.hL,c1.pen,a⟩,d.keep b⟩
def hR (i:Nat) (e:Xe ws) (hi:ws.contains i=true:=by exact ys rfl) (hz:e.fr=true:=by exact ys rfl):Xd ws where
 m:=mSet i e.m
 p:=fun env s=>(e.p env s).go env fun d env s=>match d with
  | .lst ds=>.nx (env.set i (some (.lst ds))) s
  | _=>.bad
 fr:=true
 ok {q h L B O σ env s} c d:=by
  show SOk q L h B O ws _ _ _
  have k:=e.ok c
  show SOk q L h B O ws _ ((e.m σ h).go σ fun v σ h=>.nx (σ.set i (some v)) h) _
  cases ee:e.p env s with
  | bad=>trivial
  | exc x s1 =>
   rw[ee] at k
   obtain ⟨h1,e1,kb,pn⟩:=k
   rw[e1]
   exact ⟨σ,h1,rfl,O,kb.stp c,c.kb kb pn,d⟩
  | ok x s1 =>
   rw[ee] at k
   obtain ⟨v,h1,e1,kb,pn,_,_,f⟩:=k
   rw[e1]
   cases x with
   | lst ds =>
    obtain ⟨n,xs,rfl,hn,g,r⟩:=f hz ds rfl
    have c1:=c.kb kb pn
    have hi':i∈ws:=by simpa using hi
    have mv:Mv O h (n::O) h1:=⟨fun m hm no=>kb.keep m hm fun z=>no (z▸c.pO),fun o ho=>by
     rcases List.mem_cons.mp ho with z|z
     ·exact .inr (by omega)
     ·exact .inl z⟩
    have hnO:n∉O:=fun z=>by have:=c.bd n z;omega
    refine ⟨σ.set i (some (.loc n)),h1,rfl,n::O,⟨kb.len,mv,fun o ho=>List.mem_cons_of_mem _ ho,fun m hm hq=>kb.keep m (Nat.lt_of_lt_of_le hm c.hL) hq⟩,⟨fun o ho=>?_,fun o ho=>List.mem_cons_of_mem _ (c.sub o ho),c.bb,c.pb,c1.hL,pn,?_⟩,?_⟩
    ·rcases List.mem_cons.mp ho with z|z
     ·subst z;exact aW g
     ·exact c1.bd o z
    ·have sr:=c.sr.mv mv (fun o ho=>List.mem_cons_of_mem _ ho) fun m hm hl _=>kb.keep m hm (by have:=c.pL;omega)
     refine ⟨by simp[sr.len],fun j x ej hj=>?_,fun j x ej hj=>?_⟩
     ·have ne:i≠j:=fun z=>hj (z▸hi')
      rw[List.getElem?_set_ne ne] at ej
      rw[List.getElem?_set_ne ne]
      exact sr.fz j x ej hj
     ·by_cases z:i=j
      ·subst z
       have hl:i<env.length:=by have:=(List.getElem?_eq_some_iff.mp ej).1;simpa using this
       rw[List.getElem?_set_self hl] at ej
       cases ej
       exact ⟨n,xs,ds,rfl,List.getElem?_set_self (by rw[sr.len];exact hl),by simp,by have:=c.hL;omega,g,r⟩
      ·rw[List.getElem?_set_ne z] at ej
       rw[List.getElem?_set_ne z]
       exact sr.ow j x ej hj
    ·have old:∀j d,j∈ws→i≠j→(env.set i (some (.lst ds)))[j]?=some (some d)→(σ.set i (some (.loc n)))[j]?≠some (some (.loc n)):=fun j d hj ne ej z=>by
      rw[List.getElem?_set_ne ne] at ej z
      obtain ⟨n',_,_,_,b2,b3,_⟩:=c.sr.ow j d ej hj
      rw[z] at b2
      cases b2
      exact hnO b3
     intro a b ha hb ne x y m ea eb es
     by_cases z1:i=a
     ·subst z1
      have hl:i<σ.length:=by have:=(List.getElem?_eq_some_iff.mp es).1;simpa using this
      rw[List.getElem?_set_self hl] at es
      cases es
      exact old b y hb ne eb
     ·by_cases z2:i=b
      ·subst z2
       intro z
       have hl:i<σ.length:=by have:=(List.getElem?_eq_some_iff.mp z).1;simpa using this
       rw[List.getElem?_set_self hl] at z
       cases z
       exact old a x ha z1 ea es
      ·rw[List.getElem?_set_ne z1] at ea es
       rw[List.getElem?_set_ne z2] at eb ⊢
       exact d a b ha hb ne x y m ea eb es
   | _=>trivial
end
end PU
namespace PU
open PySem MM
open L2 (ixN)
noncomputable local instance (priority:=1) cdecN5 (p:Prop):Decidable p:=Classical.propDecidable p
noncomputable section
variable {ws:List Nat}
def PS.turn (r:PS) (k:DEnv→Pen→PS):PS:=match r with
 | .nx e s=>k e s
 | .ct e s=>k e s
 | .bk e s=>.nx e s
 | r=>r
@[simp] theorem turn_nx {e:DEnv} {s:Pen} {k:DEnv→Pen→PS}:(PS.nx e s).turn k=k e s:=rfl
@[simp] theorem turn_ct {e:DEnv} {s:Pen} {k:DEnv→Pen→PS}:(PS.ct e s).turn k=k e s:=rfl
@[simp] theorem turn_bk {e:DEnv} {s:Pen} {k:DEnv→Pen→PS}:(PS.bk e s).turn k=.nx e s:=rfl
@[simp] theorem turn_rt {d:D} {s:Pen} {k:DEnv→Pen→PS}:(PS.rt d s).turn k=.rt d s:=rfl
@[simp] theorem qv {c:Str} {e:DEnv} {s:Pen} {k:DEnv→Pen→PS}:(PS.exc c e s).turn k=.exc c e s:=rfl
@[simp] theorem qw {c:Str} {e:DEnv} {s:Pen} {k:DEnv→Pen→PS}:(PS.rse c e s).turn k=.rse c e s:=rfl
@[simp] theorem turn_bad {k:DEnv→Pen→PS}:PS.bad.turn k=.bad:=rfl
def pGo (g:D→DEnv→Option DEnv) (b:DEnv→Pen→PS):List D→DEnv→Pen→PS
 | [],env,s=>.nx env s
 | d::ds,env,s=>match g d env with
  | none=>.bad
  | some env1=>(b env1 s).turn (pGo g b ds)
theorem k4 (g:Xg ws) (b:Xd ws) {q L:Nat} {B:List Nat} {it:MIt}:∀(ds:List D) (xs:List PV) (env:DEnv) (σ:PSt) (h:MH) (O:List Nat) (s:Pen),Cx q h L B O ws σ env s→Dis ws σ env→Rps q h O ds xs→(∀y∈it.gd,h[y.1]?=some (.lst y.2)∧y.1∉O) →
  SOk q L h B O ws b.fr (mGo it g.m b.m xs σ h) (pGo g.p b.p ds env s)
 | [],xs,env,σ,h,O,s,c,d,r,gd=>by
  have:xs=[]:=r
  subst this
  have ok:it.ok h:=fun y hy=>(gd y hy).1
  refine ⟨σ,h,by rw[mGo];dsimp only;rw[if_pos ok],O,Stp.refl _ _ _ _,c,d⟩
 | x::ds,xs,env,σ,h,O,s,c,d,r,gd=>by
  obtain ⟨v,xr,rfl,r1,r2⟩:=r
  have ok:it.ok h:=fun y hy=>(gd y hy).1
  rw[pGo]
  cases eg:g.p x env with
  | none=>trivial
  | some env1 =>
   obtain ⟨σ1,f1,sr,k⟩:=g.ok c.sr r1 eg
   have c1:Cx q h L B O ws σ1 env1 s:=⟨c.bd,c.sub,c.bb,c.pb,c.hL,c.pen,sr⟩
   have kb:=b.ok c1 (d.keep k)
   have em:mGo it g.m b.m (v::xr) σ h=(match b.m σ1 h with
    | .nx σ2 h2=>mGo it g.m b.m xr σ2 h2
    | .ct σ2 h2=>mGo it g.m b.m xr σ2 h2
    | .bk σ2 h2=>.nx σ2 h2
    | .rt v h2=>.rt v h2
    | .exc e σ2 h2=>.exc e σ2 h2
    | .rse e σ2 h2=>.rse e σ2 h2
    | .bad=>.bad):=by rw[mGo];dsimp only;(rw[if_pos ok,f1]) <;> rfl
   rw[em]
   have gd':∀{h2:MH} {O2:List Nat},Stp q L h O h2 O2→∀y∈it.gd,h2[y.1]?=some (.lst y.2)∧y.1∉O2:=fun st y hy=>by
    obtain ⟨a,b⟩:=st.mv.get (gd y hy).1 (gd y hy).2
    exact ⟨b,a⟩
   dsimp only
   cases eb:b.p env1 s with
   | bad=>trivial
   | nx e2 s2 =>
    rw[eb] at kb
    obtain ⟨σ2,h2,e1,O2,st,c2,d2⟩:=kb
    rw[e1]
    exact (k4 g b ds xr e2 σ2 h2 O2 s2 c2 d2 (r2.mv st.mv) (gd' st)).after st
   | ct e2 s2 =>
    rw[eb] at kb
    obtain ⟨σ2,h2,e1,O2,st,c2,d2⟩:=kb
    rw[e1]
    exact (k4 g b ds xr e2 σ2 h2 O2 s2 c2 d2 (r2.mv st.mv) (gd' st)).after st
   | bk e2 s2=>rw[eb] at kb;obtain ⟨σ2,h2,e1,r⟩:=kb;rw[e1];exact ⟨σ2,h2,rfl,r⟩
   | exc x e2 s2=>rw[eb] at kb;obtain ⟨σ2,h2,e1,r⟩:=kb;rw[e1];exact ⟨σ2,h2,rfl,r⟩
   | rse x e2 s2=>rw[eb] at kb;obtain ⟨σ2,h2,e1,r⟩:=kb;rw[e1];exact ⟨σ2,h2,rfl,r⟩
   | rt x s2=>rw[eb] at kb;obtain ⟨v,h2,e1,r⟩:=kb;rw[e1];exact ⟨v,h2,rfl,r⟩
def xFor (i:Xi ws) (g:Xg ws) (b:Xd ws) (hz:i.fz=true:=by exact ys rfl):Xd ws where
 m:=mFor i.m g.m b.m
 p:=fun env s=>(i.p env s).go env fun ds env s=>pGo g.p b.p ds env s
 fr:=b.fr
 ok {q h L B O σ env s} c d:=SOk.ex (f:=fun it=>mGo it g.m b.m it.xs) (g:=fun ds env s=>pGo g.p b.p ds env s) c d (i.ok c) fun ds it h1 s1 kb c1 r =>
  k4 g b ds it.xs env σ h1 O s1 c1 d r.1 fun y hy=>⟨(r.2.1 y hy).1,r.2.2 hz y hy⟩
def pWhN (t:DEnv→Pen→PR Bool) (b:DEnv→Pen→PS):Nat→DEnv→Pen→PS
 | 0,_,_=>.bad
 | n+1,env,s=>(t env s).go env fun x env s=>if x=true then (b env s).turn (pWhN t b n) else .nx env s
theorem jR (t:Xt ws) (b:Xd ws) {q L:Nat} {B:List Nat}:∀(n:Nat) (env:DEnv) (σ:PSt) (h:MH) (O:List Nat) (s:Pen),Cx q h L B O ws σ env s→Dis ws σ env→SOk q L h B O ws b.fr (mWhN t.m b.m n σ h) (pWhN t.p b.p n env s)
 | 0,env,σ,h,O,s,c,d=>trivial
 | n+1,env,σ,h,O,s,c,d=>by
  refine SOk.ex (f:=fun x=>if x=true then (fun σ h=>match b.m σ h with
   | .nx σ2 h2=>mWhN t.m b.m n σ2 h2
   | .ct σ2 h2=>mWhN t.m b.m n σ2 h2
   | .bk σ2 h2=>.nx σ2 h2
   | .rt v h2=>.rt v h2
   | .exc e σ2 h2=>.exc e σ2 h2
   | .rse e σ2 h2=>.rse e σ2 h2
   | .bad=>.bad) else mSkip) (g:=fun x env s=>if x=true then (b.p env s).turn (pWhN t.p b.p n) else .nx env s) c d (t.ok c) fun x v h1 s1 kb c1 e=>?_
  subst e
  cases x with
  | false=>exact ⟨σ,h1,rfl,O,Stp.refl _ _ _ _,c1,d⟩
  | true =>
   have k:=b.ok c1 d
   rw[if_pos rfl,if_pos rfl]
   cases eb:b.p env s1 with
   | bad=>trivial
   | nx e2 s2 =>
    rw[eb] at k
    obtain ⟨σ2,h2,e1,O2,st,c2,d2⟩:=k
    rw[e1]
    exact (jR t b n e2 σ2 h2 O2 s2 c2 d2).after st
   | ct e2 s2 =>
    rw[eb] at k
    obtain ⟨σ2,h2,e1,O2,st,c2,d2⟩:=k
    rw[e1]
    exact (jR t b n e2 σ2 h2 O2 s2 c2 d2).after st
   | bk e2 s2=>rw[eb] at k;obtain ⟨σ2,h2,e1,r⟩:=k;rw[e1];exact ⟨σ2,h2,rfl,r⟩
   | exc x e2 s2=>rw[eb] at k;obtain ⟨σ2,h2,e1,r⟩:=k;rw[e1];exact ⟨σ2,h2,rfl,r⟩
   | rse x e2 s2=>rw[eb] at k;obtain ⟨σ2,h2,e1,r⟩:=k;rw[e1];exact ⟨σ2,h2,rfl,r⟩
   | rt x s2=>rw[eb] at k;obtain ⟨v,h2,e1,r⟩:=k;rw[e1];exact ⟨v,h2,rfl,r⟩
def xWh (N:Nat) (t:Xt ws) (b:Xd ws) (hm:∀{σ h n},mWhN t.m b.m n σ h≠.bad→mWh t.m b.m σ h=mWhN t.m b.m n σ h):Xd ws where
 m:=mWh t.m b.m
 p:=pWhN t.p b.p N
 fr:=b.fr
 ok {q h L B O σ env s} c d:=by
  have k:=jR t b N env σ h O s c d
  by_cases z:mWhN t.m b.m N σ h=.bad
  ·rw[z] at k
   cases e:pWhN t.p b.p N env s with
   | bad=>trivial
   | nx e2 s2=>rw[e] at k;obtain ⟨_,_,e1,_⟩:=k;cases e1
   | ct e2 s2=>rw[e] at k;obtain ⟨_,_,e1,_⟩:=k;cases e1
   | bk e2 s2=>rw[e] at k;obtain ⟨_,_,e1,_⟩:=k;cases e1
   | exc x e2 s2=>rw[e] at k;obtain ⟨_,_,e1,_⟩:=k;cases e1
   | rse x e2 s2=>rw[e] at k;obtain ⟨_,_,e1,_⟩:=k;cases e1
   | rt x s2=>rw[e] at k;obtain ⟨_,_,e1,_⟩:=k;cases e1
  ·rw[hm z];exact k
structure OpM where
 m:Nat→List PV→MH→Out PV
 p:List D→List D→Option (D × List D)
 ok:∀{q:Nat} {h:MH} {O:List Nat} {n:Nat} {xs:List PV} {ds as:List D} {vs:List PV} {d:D} {ds':List D},h[n]?=some (.lst xs)→Rps q h O ds xs→Rps q h O as vs→p ds as=some (d,ds')→∃v xs',m n vs h=.ok v (h.set n (.lst xs'))∧Rps q h O ds' xs'∧Rp q h O d v
theorem mQ {q h L B O σ env s n xs' ds' i ds} (c:Cx q h L B O ws σ env s) (d:Dis ws σ env) (hi:i∈ws) (e:env[i]?=some (some (D.lst ds))) (es:σ[i]?=some (some (.loc n))) (r:Rps q h O ds' xs') :
  Nxt q L h B O ws σ (h.set n (.lst xs')) (env.set i (some (.lst ds'))) s:=by
 obtain ⟨n',xs,ds0,e0,e2,a,b,g,r0⟩:=c.sr.ow i _ e hi
 rw[es] at e2
 cases e2
 have mv:Mv O h O (h.set n (.lst xs')):=⟨fun m hm no=>List.getElem?_set_ne (fun (z:n=m)=>no (z▸a)),fun o ho=>.inl ho⟩
 have hp:=c.pL
 have il:i<env.length:=(List.getElem?_eq_some_iff.mp e).1
 refine ⟨O,⟨by simp,mv,fun _ h=>h,fun m hm _=>List.getElem?_set_ne (by omega)⟩,⟨fun o ho=>by simpa using c.bd o ho,c.sub,c.bb,c.pb,by simpa using c.hL,?_,⟨by simp[c.sr.len],fun j x ej hj=>?_,fun j x ej hj=>?_⟩⟩,?_⟩
 ·unfold bD;rw[List.getElem?_set_ne (by omega)];exact c.pen
 ·have ne:i≠j:=fun z=>hj (z▸hi)
  rw[List.getElem?_set_ne ne] at ej
  obtain ⟨v,e1,w⟩:=c.sr.fz j x ej hj
  exact ⟨v,e1,w.mv mv⟩
 ·by_cases z:i=j
  ·subst z
   rw[List.getElem?_set_self il] at ej
   cases ej
   exact ⟨n,xs',ds',rfl,es,a,b,List.getElem?_set_self (aW g),r.mv mv⟩
  ·rw[List.getElem?_set_ne z] at ej
   obtain ⟨m,ys,es',e1,e3,b3,b4,b5,b6⟩:=c.sr.ow j x ej hj
   have:n≠m:=fun y=>d i j hi hj z _ _ n e ej es (y▸e3)
   exact ⟨m,ys,es',e1,e3,b3,b4,by rw[List.getElem?_set_ne this];exact b5,b6.mv mv⟩
 ·intro j k hj hk ne x y m ej ek e1
  have up:∀j x,(env.set i (some (D.lst ds')))[j]?=some (some x)→∃x',env[j]?=some (some x'):=fun j x ej=>by
   by_cases z:i=j
   ·subst z;exact ⟨_,e⟩
   ·rw[List.getElem?_set_ne z] at ej;exact ⟨x,ej⟩
  obtain ⟨x',ej'⟩:=up j x ej
  obtain ⟨y',ek'⟩:=up k y ek
  exact d j k hj hk ne x' y' m ej' ek' e1
theorem mt_ok (o:OpM) (i:Nat) (a:Xs ws) (hi:i∈ws) (hz:a.fz=true) {q h L B O σ env s} (c:Cx q h L B O ws σ env s) (d:Dis ws σ env) {as:List D} {s1:Pen} {ds:List D} {r:D} {ds':List D}
  (ea:a.p env s=.ok as s1) (ei:env[i]?=some (some (.lst ds))) (eo:o.p ds as=some (r,ds')):∃v h1 n xs',KB q h h1∧Cx q h1 L B O ws σ env s1∧σ[i]?=some (some (.loc n))∧mMt o.m (mVar i) a.m σ h=.ok v (h1.set n (.lst xs'))∧Rps q h1 O ds' xs'∧Rp q h1 O r v:=by
 obtain ⟨n,xs,ds0,e0,e2,b1,b2,g,r0⟩:=c.sr.ow i _ ei hi
 cases e0
 have ka:=a.ok c
 rw[ea] at ka
 obtain ⟨vs,h1,e3,kb,pn,_,rv⟩:=ka
 have c1:=c.kb kb pn
 have g1:h1[n]?=some (.lst xs):=(kb.keep n (aW g) (by have:=c.pL;omega)).trans g
 obtain ⟨v,xs',e4,r1,r2⟩:=o.ok g1 (r0.mv (kb.mv c.pO)) (rv hz) eo
 refine ⟨v,h1,n,xs',kb,c1,e2,?_,r1,r2⟩
 have em:mVar i σ h=.ok (.loc n) h:=by simp[mVar,e2]
 show (mVar i σ h).bind _=_
 rw[em]
 simp only[Out.bind_ok,g,e3,e4,Out.ne_ok]
def pMt (o:OpM) (i:Nat) (a:DEnv→Pen→PR (List D)) (env:DEnv) (s:Pen) (k:D→DEnv→Pen→PS):PS:=match a env s with
 | .ok as s1=>(match env[i]? with
  | some (some (.lst ds))=>(match o.p ds as with
   | some (r,ds')=>k r (env.set i (some (.lst ds'))) s1
   | none=>.bad)
  | _=>.bad)
 | _=>.bad
theorem pV {o:OpM} {i:Nat} {a:DEnv→Pen→PR (List D)} {env:DEnv} {s s1:Pen} {k:D→DEnv→Pen→PS} {as ds ds':List D} {r:D} (e1:a env s=.ok as s1) (e2:env[i]?=some (some (.lst ds))) (e3:o.p ds as=some (r,ds')):pMt o i a env s k=k r (env.set i (some (.lst ds'))) s1:=by
 simp only[pMt,e1,e2,e3]
theorem pMt_inv {o:OpM} {i:Nat} {a:DEnv→Pen→PR (List D)} {env:DEnv} {s:Pen} {k:D→DEnv→Pen→PS}:pMt o i a env s k=.bad∨∃as s1 ds r ds',a env s=.ok as s1∧env[i]?=some (some (.lst ds))∧o.p ds as=some (r,ds')∧pMt o i a env s k=k r (env.set i (some (.lst ds'))) s1:=by
 cases e1:a env s with
 | bad=>left;simp only[pMt,e1]
 | exc _ _=>left;simp only[pMt,e1]
 | ok as s1 =>
  cases e2:env[i]? with
  | none=>left;simp only[pMt,e1,e2]
  | some x =>
   cases x with
   | none=>left;simp only[pMt,e1,e2]
   | some d =>
    cases d with
    | lst ds =>
     cases e3:o.p ds as with
     | none=>left;simp only[pMt,e1,e2,e3]
     | some y=>exact .inr ⟨as,s1,ds,y.1,y.2,rfl,rfl,e3,pV e1 e2 e3⟩
    | _=>left;simp only[pMt,e1,e2]
def xMt (o:OpM) (i:Nat) (a:Xs ws) (hi:ws.contains i=true:=by exact ys rfl) (hz:a.fz=true:=by exact ys rfl):Xd ws where
 m:=fX (mMt o.m (mVar i) a.m)
 p:=fun env s=>pMt o i a.p env s fun _=>.nx
 fr:=true
 ok {q h L B O σ env s} c d:=by
  rcases pMt_inv (o:=o) (i:=i) (a:=a.p) (env:=env) (s:=s) (k:=fun _=>.nx) with z|⟨as,s1,ds,r,ds',e1,e2,e3,z⟩
  ·rw[z];trivial
  ·rw[z]
   have hi':i∈ws:=by simpa using hi
   obtain ⟨v,h1,n,xs',kb,c1,es,em,r1,r2⟩:=mt_ok o i a hi' hz c d e1 e2 e3
   refine ⟨σ,h1.set n (.lst xs'),?_,(mQ c1 d hi' e2 es r1).after (kb.stp c)⟩
   unfold fX mEx;rw[em];rfl
def pSub (i:Nat) (e ix:DEnv→Pen→PR D) (env:DEnv) (s:Pen):PS:=match e env s with
 | .ok v s1=>(match ix env s1 with
  | .ok (.int j) s2=>(match env[i]? with
   | some (some (.lst ds))=>(match ixN ds.length j with
    | some n=>.nx (env.set i (some (.lst (ds.set n v)))) s2
    | none=>.bad)
   | _=>.bad)
  | _=>.bad)
 | _=>.bad
theorem cS {i:Nat} {e ix:DEnv→Pen→PR D} {env:DEnv} {s s1 s2:Pen} {v:D} {j:Int} {ds:List D} {n:Nat} (e1:e env s=.ok v s1) (e2:ix env s1=.ok (.int j) s2) (e3:env[i]?=some (some (.lst ds))) (e4:ixN ds.length j=some n):pSub i e ix env s=.nx (env.set i (some (.lst (ds.set n v)))) s2:=by
 simp only[pSub,e1,e2,e3,e4]
theorem qW {i:Nat} {e ix:DEnv→Pen→PR D} {env:DEnv} {s:Pen}:pSub i e ix env s=.bad∨∃v s1 j s2 ds n,e env s=.ok v s1∧ix env s1=.ok (.int j) s2∧env[i]?=some (some (.lst ds))∧ixN ds.length j=some n∧pSub i e ix env s=.nx (env.set i (some (.lst (ds.set n v)))) s2:=by
 cases e1:e env s with
 | bad=>left;simp only[pSub,e1]
 | exc _ _=>left;simp only[pSub,e1]
 | ok v s1 =>
  cases e2:ix env s1 with
  | bad=>left;simp only[pSub,e1,e2]
  | exc _ _=>left;simp only[pSub,e1,e2]
  | ok k s2 =>
   cases k with
   | int j =>
    cases e3:env[i]? with
    | none=>left;simp only[pSub,e1,e2,e3]
    | some x =>
     cases x with
     | none=>left;simp only[pSub,e1,e2,e3]
     | some d =>
      cases d with
      | lst ds =>
       cases e4:ixN ds.length j with
       | none=>left;simp only[pSub,e1,e2,e3,e4]
       | some n=>exact .inr ⟨v,s1,j,s2,ds,n,rfl,e2,rfl,e4,cS e1 e2 e3 e4⟩
      | _=>left;simp only[pSub,e1,e2,e3]
   | _=>left;simp only[pSub,e1,e2]
theorem Vw.int {q:Nat} {h:MH} {L:Nat} {O:List Nat} {b:Int} {v:PV} (w:Vw q h L O (.int b) v):v=.int b:=by
 rcases w with r|⟨n,xs,ds,e,_⟩
 ·exact r
 ·cases e
def xSub (i:Nat) (e ix:Xe ws) (hi:ws.contains i=true:=by exact ys rfl) (hz:e.fz=true:=by exact ys rfl):Xd ws where
 m:=mAsg e.m (gSb (mVar i) ix.m)
 p:=pSub i e.p ix.p
 fr:=true
 ok {q h L B O σ env s} c d:=by
  rcases qW (i:=i) (e:=e.p) (ix:=ix.p) (env:=env) (s:=s) with z|⟨v,s1,j,s2,ds,n,e1,e2,e3,e4,z⟩
  ·rw[z];trivial
  ·rw[z]
   have hi':i∈ws:=by simpa using hi
   have ke:=e.ok c
   rw[e1] at ke
   obtain ⟨x,h1,f1,kb1,pn1,_,rx,_⟩:=ke
   have c1:=c.kb kb1 pn1
   have ki:=ix.ok c1
   rw[e2] at ki
   obtain ⟨y,h2,f2,kb2,pn2,w,_,_⟩:=ki
   have c2:=c1.kb kb2 pn2
   obtain ⟨nl,xs,ds0,e0,es,b1,b2,g,r0⟩:=c2.sr.ow i _ e3 hi'
   cases e0
   have hy:=w.int
   subst hy
   have em:mVar i σ h1=.ok (.loc nl) h1:=by simp[mVar,es]
   have nx:=mQ c2 d hi' e3 es (xs':=xs.set n x) (ds':=ds.set n v) (r0.set n ((rx hz).mv (kb2.mv c.pO)))
   refine ⟨σ,h2.set nl (.lst (xs.set n x)),?_,nx.after ((kb1.trans kb2).stp c)⟩
   have e5:setL (.loc nl) (.int j) x h2=some (h2.set nl (.lst (xs.set n x))):=by
    simp only[setL,g];rw[r0.length,e4];rfl
   have e6:gSb (mVar i) ix.m x σ h1=.nx σ (h2.set nl (.lst (xs.set n x))):=by
    simp only[gSb,mEx,em,f2,e5]
   unfold mAsg mEx;rw[f1];dsimp only;rw[e6]
def PS.fin (r:PS):PR D:=match r with
 | .nx _ s=>.ok .non s
 | .rt d s=>.ok d s
 | .exc c _ s=>.exc c s
 | .rse c _ s=>.exc c s
 | _=>.bad
@[simp] theorem fin_nx {e:DEnv} {s:Pen}:(PS.nx e s).fin=.ok .non s:=rfl
@[simp] theorem bv {d:D} {s:Pen}:(PS.rt d s).fin=.ok d s:=rfl
@[simp] theorem fin_exc {c:Str} {e:DEnv} {s:Pen}:(PS.exc c e s).fin=.exc c s:=rfl
@[simp] theorem fin_rse {c:Str} {e:DEnv} {s:Pen}:(PS.rse c e s).fin=.exc c s:=rfl
@[simp] theorem fin_bad:PS.bad.fin=.bad:=rfl
def dSt (n:Nat) (ds:List D):DEnv:=ds.map some++List.replicate (n - ds.length) none
def xDef (n np:Nat) (b:Xd ws) (hw:ws.all (fun i=>decide (np≤i))=true:=by exact ys rfl):Fn where
 m:=mDef n np b.m
 p:=fun ds s=>if ds.length=np then (b.p (dSt n ds) s).fin else .bad
 fr:=b.fr
 ok {q h O vs ds s} bd hq pn r:=by
  by_cases hl:ds.length=np
  ·rw[if_pos hl]
   have hv:vs.length=np:=by rw[r.length];exact hl
   have low:∀i d,(dSt n ds)[i]?=some (some d)→i<np∧ds[i]?=some d:=fun i d e=>by
    by_cases z:i<ds.length
    ·refine ⟨by omega,?_⟩
     unfold dSt at e
     rw[List.getElem?_append_left (by simpa using z)] at e
     simp at e
     simpa using e
    ·unfold dSt at e
     rw[List.getElem?_append_right (by simpa using z)] at e
     by_cases y:i - (ds.map some).length<n - ds.length
     ·simp[List.getElem?_replicate,y] at e
     ·simp at y e
      exact absurd e (by simp[List.getElem?_replicate])
   have nw:∀i d,(dSt n ds)[i]?=some (some d)→i∉ws:=fun i d e hi=>by
    have:=(low i d e).1
    rw[List.all_eq_true] at hw
    have:=hw i hi
    simp at this
    omega
   have c:Cx q h h.length O O ws (bL n vs) (dSt n ds) s:=by
    refine ⟨bd,fun _ h=>h,bd,hq,Nat.le_refl _,pn,⟨by simp[bL,dSt,r.length],fun i d e _=>?_,fun i d e hi=>absurd hi (nw i d e)⟩⟩
    obtain ⟨v,ev,rv⟩:=r.get (low i d e).2
    refine ⟨v,?_,rv⟩
    unfold bL
    rw[List.getElem?_append_left (by simpa using (List.getElem?_eq_some_iff.mp ev).1)]
    simp[ev]
   have k:=b.ok c fun i j hi _ _ d _ _ e=>absurd hi (nw i d e)
   have em:mDef n np b.m vs h=(match b.m (bL n vs) h with
    | .nx _ h'=>.ok .non h'
    | .rt v h'=>.ok v h'
    | .exc x _ h'=>.exc x h'
    | .rse x _ h'=>.exc x h'
    | _=>.bad):=by unfold mDef;(rw[if_pos hv]) <;> (cases b.m (bL n vs) h <;> rfl)
   rw[em]
   have kb:∀{h' O'},Stp q h.length h O h' O'→KB q h h':=fun st=>⟨st.len,fun m hm hq=>st.base m hm hq⟩
   cases e:b.p (dSt n ds) s with
   | nx e1 s1=>rw[e] at k;obtain ⟨σ',h',f,O',st,c',_⟩:=k;rw[f];exact ⟨.non,h',rfl,kb st,c'.pen,rfl,fun _ ds e=>by cases e⟩
   | exc x e1 s1=>rw[e] at k;obtain ⟨σ',h',f,O',st,c',_⟩:=k;rw[f];exact ⟨h',rfl,kb st,c'.pen⟩
   | rse x e1 s1=>rw[e] at k;obtain ⟨σ',h',f,O',st,c',_⟩:=k;rw[f];exact ⟨h',rfl,kb st,c'.pen⟩
   | rt x s1=>rw[e] at k;obtain ⟨v,h',f,l,b,p,rr⟩:=k;rw[f];exact ⟨v,h',rfl,⟨l,b⟩,p,rr⟩
   | bk e1 s1=>trivial
   | ct e1 s1=>trivial
   | bad=>trivial
  ·rw[if_neg hl];trivial
end
end PU
namespace PU
open PySem MM SetT SortT
open L2 (ixN atI CPow)
noncomputable local instance (priority:=1) cdecN6 (p:Prop):Decidable p:=Classical.propDecidable p
noncomputable section
section
variable {q:Nat} {h:MH} {L:Nat} {O:List Nat} {v:PV}
theorem Vw.non (w:Vw q h L O .non v):v=.non:=by
 rcases w with r|⟨n,xs,ds,e,_⟩
 ·exact r
 ·cases e
theorem Vw.str {x:Str} (w:Vw q h L O (.str x) v):v=.str x:=by
 rcases w with r|⟨n,xs,ds,e,_⟩
 ·exact r
 ·cases e
theorem Vw.lst {ds:List D} (w:Vw q h L O (.lst ds) v):∃n xs,v=.loc n∧h[n]?=some (.lst xs)∧Rps q h O ds xs:=by
 rcases w with ⟨n,xs,e,_,g,r⟩|⟨n,xs,ds',e,e1,_,_,g,r⟩
 ·exact ⟨n,xs,e,g,r⟩
 ·cases e;exact ⟨n,xs,e1,g,r⟩
theorem Vw.tup {ds:List D} (w:Vw q h L O (.tup ds) v):∃xs,v=.tup xs∧Rps q h O ds xs:=by
 rcases w with r|⟨n,xs,ds',e,_⟩
 ·exact r
 ·cases e
theorem gv0 {d:D} {fr:Bool} (r:Rp q h O d v) (hf:fr=true→∀ds,d≠.lst ds):Gv q h O fr (.ok v h) d :=
 ⟨v,[],by simp,by simpa using r,fun z ds e=>absurd e (hf z ds)⟩
theorem gvI {i:Int} {fr:Bool}:Gv q h O fr (.ok (.int i) h) (.int i):=gv0 rfl fun _ _ e=>by cases e
theorem gvB {i:Bool} {fr:Bool}:Gv q h O fr (.ok (.bl i) h) (.bl i):=gv0 rfl fun _ _ e=>by cases e
theorem vws1 {d:D} {vs:List PV} (w:Vws q h L O [d] vs):∃x,vs=[x]∧Vw q h L O d x:=by
 obtain ⟨x,r,e,a,b⟩:=w
 have:r=[]:=b
 subst this
 exact ⟨x,e,a⟩
theorem vws2 {d d':D} {vs:List PV} (w:Vws q h L O [d,d'] vs):∃x y,vs=[x,y]∧Vw q h L O d x∧Vw q h L O d' y:=by
 obtain ⟨x,r,e,a,b⟩:=w
 obtain ⟨y,rfl,c⟩:=vws1 b
 exact ⟨x,y,e,a,c⟩
end
def iiOp (m:PV→PV→MH→Out PV) (f:Int→Int→D) (g:Int→Int→PV) (hm:∀i j h,m (.int i) (.int j) h=.ok (g i j) h) (hg:∀i j q h O fr,Gv q h O fr (.ok (g i j) h) (f i j)):Op2 where
 m:=m
 p:=fun a b=>match a,b with
  | .int i,.int j=>some (f i j)
  | _,_=>none
 fr:=true
 ok {q h L O a x b y d} bd wa wb e:=by
  cases a with
  | int i =>
   cases b with
   | int j=>cases e;rw[wa.int,wb.int,hm];exact hg i j q h O true
   | _=>cases e
  | _=>cases e
def oSub:Op2:=iiOp opSub (fun i j=>.int (i - j)) (fun i j=>.int (i - j)) (fun _ _ _=>rfl) fun _ _ _ _ _ _=>gvI
def oLt:Op2:=iiOp opLt (fun i j=>.bl (decide (i<j))) (fun i j=>.bl (decide (i<j))) (fun _ _ _=>rfl) fun _ _ _ _ _ _=>gvB
def oGt:Op2:=iiOp opGt (fun i j=>.bl (decide (j<i))) (fun i j=>.bl (decide (j<i))) (fun _ _ _=>rfl) fun _ _ _ _ _ _=>gvB
def oAdd:Op2 where
 m:=opAdd
 p:=fun a b=>match a,b with
  | .int i,.int j=>some (.int (i+j))
  | .lst x,.lst y=>if x.length+y.length≤100000 then some (.lst (x++y)) else none
  | .tup (a::x),.tup y=>if x.length+1+y.length≤100000 then some (.tup (a::x++y)) else none
  | _,_=>none
 fr:=true
 ok {q h L O a x b y d} bd wa wb e:=by
  cases a with
  | int i =>
   cases b with
   | int j=>cases e;rw[wa.int,wb.int];exact gvI
   | _=>cases e
  | lst x =>
   cases b with
   | lst y =>
    dsimp only at e
    by_cases z:x.length+y.length≤100000
    ·rw[if_pos z] at e
     cases e
     obtain ⟨n,xs,rfl,g,r⟩:=wa.lst
     obtain ⟨n',ys,rfl,g',r'⟩:=wb.lst
     show Gv q h O true (match h[n]?,h[n']? with | some (.lst xs),some (.lst ys)=>newL (xs++ys) h | _,_=>.bad) _
     rw[g,g']
     exact ig bd (r.app r') (by simpa using z)
    ·rw[if_neg z] at e;cases e
   | _=>cases e
  | tup x =>
   cases x with
   | nil=>cases b <;> cases e
   | cons a x =>
    cases b with
    | tup y =>
     dsimp only at e
     by_cases z:x.length+1+y.length≤100000
     ·rw[if_pos z] at e
      cases e
      obtain ⟨xs,rfl,r⟩:=wa.tup
      obtain ⟨ys,rfl,r'⟩:=wb.tup
      have ne:xs≠[]:=fun z=>by have:=r.length;simp[z] at this
      show Gv q h O true (if xs≠[] then newT (xs++ys) h else .bad) _
      rw[if_pos ne]
      exact mU (r.app r') (by simp;omega)
     ·rw[if_neg z] at e;cases e
    | _=>cases e
  | _=>cases e
theorem Rps.rep {q:Nat} {h:MH} {O:List Nat} {ds:List D} {xs:List PV} (r:Rps q h O ds xs):∀n,Rps q h O (List.replicate n ds).flatten (List.replicate n xs).flatten
 | 0=>rfl
 | n+1=>by
  rw[List.replicate_succ,List.replicate_succ,List.flatten_cons,List.flatten_cons]
  exact r.app (Rps.rep r n)
def oMul:Op2 where
 m:=opMul
 p:=fun a b=>match a,b with
  | .int i,.int j=>if IntMulOk i j then some (.int (i * j)) else none
  | .lst x,.int j=>if (0≤j∧j≤1000)∧((List.replicate j.toNat x).flatten).length≤100000 then some (.lst (List.replicate j.toNat x).flatten) else none
  | _,_=>none
 fr:=true
 ok {q h L O a x b y d} bd wa wb e:=by
  cases a with
  | int i =>
   cases b with
   | int j =>
    dsimp only at e
    by_cases z:IntMulOk i j
    ·rw[if_pos z] at e
     cases e;rw[wa.int,wb.int]
     show Gv q h O true (if IntMulOk i j then .ok (.int (i * j)) h else .bad) _
     rw[if_pos z];exact gvI
    ·rw[if_neg z] at e;cases e
   | _=>cases e
  | lst x =>
   cases b with
   | int j =>
    dsimp only at e
    by_cases z:(0≤j∧j≤1000)∧((List.replicate j.toNat x).flatten).length≤100000
    ·rw[if_pos z] at e
     cases e
     obtain ⟨n,xs,rfl,g,r⟩:=wa.lst
     rw[wb.int]
     show Gv q h O true (match h[n]? with | some (.lst xs)=>if -(2 ^ 63)≤j∧j<2 ^ 63 then newL (List.flatten (List.replicate j.toNat xs)) h else .bad | _=>.bad) _
     rw[g]
     dsimp only
     rw[if_pos (by omega)]
     exact ig bd (r.rep _) z.2
    ·rw[if_neg z] at e;cases e
   | _=>cases e
  | _=>cases e
def oFd:Op2 where
 m:=opFd
 p:=fun a b=>match a,b with
  | .int i,.int j=>if j≠0∧Builtin.divisionGoesByPylong i j=false then some (.int (i.fdiv j)) else none
  | _,_=>none
 fr:=true
 ok {q h L O a x b y d} bd wa wb e:=by
  cases a with
  | int i =>
   cases b with
   | int j =>
    dsimp only at e
    by_cases z:j≠0∧Builtin.divisionGoesByPylong i j=false
    ·rw[if_pos z] at e
     cases e;rw[wa.int,wb.int]
     show Gv q h O true (if j≠0∧Builtin.divisionGoesByPylong i j=false then .ok (.int (i.fdiv j)) h else .bad) _
     rw[if_pos z];exact gvI
    ·rw[if_neg z] at e;cases e
   | _=>cases e
  | _=>cases e
def oMod:Op2 where
 m:=opMod
 p:=fun a b=>match a,b with
  | .int i,.int j=>if j≠0 then some (.int (i.fmod j)) else none
  | _,_=>none
 fr:=true
 ok {q h L O a x b y d} bd wa wb e:=by
  cases a with
  | int i =>
   cases b with
   | int j =>
    dsimp only at e
    by_cases z:j≠0
    ·rw[if_pos z] at e
     cases e;rw[wa.int,wb.int]
     show Gv q h O true (if j≠0 then .ok (.int (i.fmod j)) h else .bad) _
     rw[if_pos z];exact gvI
    ·rw[if_neg z] at e;cases e
   | _=>cases e
  | _=>cases e
def oPow:Op2 where
 m:=opPow
 p:=fun a b=>match a,b with
  | .int i,.int j=>if CPow i j then some (.int (i ^ j.toNat)) else none
  | _,_=>none
 fr:=true
 ok {q h L O a x b y d} bd wa wb e:=by
  cases a with
  | int i =>
   cases b with
   | int j =>
    dsimp only at e
    by_cases z:CPow i j
    ·rw[if_pos z] at e
     cases e;rw[wa.int,wb.int]
     show Gv q h O true (if CPow i j then .ok (.int (i ^ j.toNat)) h else .bad) _
     rw[if_pos z];exact gvI
    ·rw[if_neg z] at e;cases e
   | _=>cases e
  | _=>cases e
def oIx:Op2 where
 m:=opIx
 p:=fun a b=>match a,b with
  | .lst x,.int j=>atI x j
  | .tup x,.int j=>atI x j
  | _,_=>none
 fr:=false
 ok {q h L O a x b y d} bd wa wb e:=by
  have at':∀{ds:List D} {xs:List PV} {j:Int},Rps q h O ds xs→atI ds j=some d→∃v,atI xs j=some v∧Rp q h O d v:=fun {ds xs j} r e=>by
   unfold atI at e ⊢
   rw[r.length]
   cases e1:ixN ds.length j with
   | none=>rw[e1] at e;cases e
   | some k=>rw[e1] at e;exact r.get e
  cases b with
  | int j =>
   rw[wb.int]
   cases a with
   | lst ds =>
    obtain ⟨n,xs,rfl,g,r⟩:=wa.lst
    obtain ⟨v,e1,rv⟩:=at' r e
    show Gv q h O false (match h[n]? with | some (.lst xs)=>(match atI xs j with | some v=>.ok v h | none=>.bad) | _=>.bad) _
    rw[g];dsimp only;rw[e1]
    exact gv0 rv fun z=>by cases z
   | tup ds =>
    obtain ⟨xs,rfl,r⟩:=wa.tup
    obtain ⟨v,e1,rv⟩:=at' r e
    show Gv q h O false (match atI xs j with | some v=>.ok v h | none=>.bad) _
    rw[e1]
    exact gv0 rv fun z=>by cases z
   | _=>cases e
  | _=>cases a <;> cases e
def oIs (neg:Bool):Op2 where
 m:=opIs neg
 p:=fun a b=>match b with
  | .non=>(match a with
   | .non=>some (.bl (!neg))
   | _=>some (.bl neg))
  | .bl b=>(match a with
   | .bl c=>some (.bl (if neg then !(c == b) else c == b))
   | .non=>some (.bl neg)
   | .int _=>some (.bl neg)
   | .str _=>some (.bl neg)
   | .tup _=>some (.bl neg)
   | _=>none)
  | _=>none
 fr:=true
 ok {q h L O a x b y d} bd wa wb e:=by
  have loc:∀{a:D} {x:PV},Vw q h L O a x→(∃ds,a=.lst ds)∨a=.dic∨(∃c,a=.exc c)∨a=.pen→∃n,x=.loc n:=fun {a x} w z=>by
   rcases w with r|⟨n,xs,ds,e,e1,_⟩
   ·rcases z with ⟨ds,rfl⟩|rfl|⟨c,rfl⟩|rfl
    ·obtain ⟨n,_,e,_⟩:=r;exact ⟨n,e⟩
    ·obtain ⟨n,e,_⟩:=r;exact ⟨n,e⟩
    ·obtain ⟨n,e,_⟩:=r;exact ⟨n,e⟩
    ·exact ⟨q,r⟩
   ·exact ⟨n,e1⟩
  cases b with
  | non =>
   rw[wb.non]
   cases a with
   | non=>cases e;rw[wa.non];exact gvB
   | bl c=>cases e;rw[wa.bl];exact gvB
   | int c=>cases e;rw[wa.int];exact gvB
   | str c=>cases e;rw[wa.str];exact gvB
   | tup c=>cases e;obtain ⟨xs,rfl,_⟩:=wa.tup;exact gvB
   | lst c=>cases e;obtain ⟨n,rfl⟩:=loc wa (.inl ⟨_,rfl⟩);exact gvB
   | dic=>cases e;obtain ⟨n,rfl⟩:=loc wa (.inr (.inl rfl));exact gvB
   | exc c=>cases e;obtain ⟨n,rfl⟩:=loc wa (.inr (.inr (.inl ⟨_,rfl⟩)));exact gvB
   | pen=>cases e;obtain ⟨n,rfl⟩:=loc wa (.inr (.inr (.inr rfl)));exact gvB
  | bl b =>
   rw[wb.bl]
   cases a with
   | non=>cases e;rw[wa.non];exact gvB
   | bl c=>cases e;rw[wa.bl];exact gvB
   | int c=>cases e;rw[wa.int];exact gvB
   | str c=>cases e;rw[wa.str];exact gvB
   | tup c=>cases e;obtain ⟨xs,rfl,_⟩:=wa.tup;exact gvB
   | _=>cases e
  | _=>cases e
mutual
def py:D→Option PyData
 | .non=>some .none
 | .bl b=>some (.bool b)
 | .int i=>some (.int i)
 | .str x=>some (.str x)
 | .tup ds=>(pys ds).map .tuple
 | .lst ds=>(pys ds).map .list
 | _=>none
def pys:List D→Option (List PyData)
 | []=>some []
 | d::ds=>match py d,pys ds with
  | some x,some xs=>some (x::xs)
  | _,_=>none
end
mutual
def dep:D→Nat
 | .tup ds=>1+deps ds
 | .lst ds=>1+deps ds
 | _=>0
def deps:List D→Nat
 | []=>0
 | d::ds=>max (dep d) (deps ds)
end
mutual
theorem rd_ok {q:Nat} {h:MH} {O:List Nat}:∀{d:D} {v:PV} {e:PyData} {n:Nat},Rp q h O d v→py d=some e→dep d≤n→rd n h v=some e
 | .non,_,_,n,r,e,_=>by rw[show _=PV.non from r];cases e;cases n <;> rfl
 | .bl b,_,_,n,r,e,_=>by rw[show _=PV.bl b from r];cases e;cases n <;> rfl
 | .int b,_,_,n,r,e,_=>by rw[show _=PV.int b from r];cases e;cases n <;> rfl
 | .str b,_,_,n,r,e,_=>by rw[show _=PV.str b from r];cases e;cases n <;> rfl
 | .tup ds,_,e,n,⟨xs,ex,r⟩,ep,hd=>by
  subst ex
  rw[py,Option.map_eq_some_iff] at ep
  obtain ⟨es,e1,rfl⟩:=ep
  rw[dep] at hd
  cases n with
  | zero=>omega
  | succ n=>simp only[rd];rw[gS r e1 (by omega)];rfl
 | .lst ds,_,e,n,⟨m,xs,ex,_,g,r⟩,ep,hd=>by
  subst ex
  rw[py,Option.map_eq_some_iff] at ep
  obtain ⟨es,e1,rfl⟩:=ep
  rw[dep] at hd
  cases n with
  | zero=>omega
  | succ n=>simp only[rd,g];rw[gS r e1 (by omega)];rfl
 | .dic,_,_,_,_,e,_=>by simp[py] at e
 | .exc _,_,_,_,_,e,_=>by simp[py] at e
 | .pen,_,_,_,_,e,_=>by simp[py] at e
theorem gS {q:Nat} {h:MH} {O:List Nat}:∀{ds:List D} {vs:List PV} {es:List PyData} {n:Nat},Rps q h O ds vs→pys ds=some es→deps ds≤n→b7 (rd n h) vs=some es
 | [],_,_,_,r,e,_=>by rw[show _=[] from r];rw[pys] at e;cases e;rfl
 | d::ds,_,es,n,⟨x,t,ex,a,b⟩,e,hd=>by
  subst ex
  rw[deps] at hd
  rw[pys] at e
  cases e1:py d with
  | none=>rw[e1] at e;cases e
  | some y =>
   cases e2:pys ds with
   | none=>rw[e1,e2] at e;cases e
   | some ys =>
    rw[e1,e2] at e
    cases e
    have a1:=rd_ok (n:=n) a e1 (by omega)
    have b1:=gS (n:=n) b e2 (by omega)
    simp only[b7,a1,b1]
end
theorem jx {q:Nat} {h:MH} {L:Nat} {O:List Nat} {d:D} {v:PV} {e:PyData} (w:Vw q h L O d v) (ep:py d=some e) (hd:dep d≤60):rd 60 h v=some e:=by
 rcases w with r|⟨n,xs,ds,rfl,rfl,_,_,g,r⟩
 ·exact rd_ok r ep hd
 ·rw[py,Option.map_eq_some_iff] at ep
  obtain ⟨es,e1,rfl⟩:=ep
  rw[dep] at hd
  have a1:=gS (n:=59) r e1 (by omega)
  show (match h[n]? with | some (.lst xs)=>(b7 (rd 59 h) xs).map PyData.list | _=>none)=_
  rw[g];dsimp only;rw[a1];rfl
def eqD (neg:Bool) (a b:D):Option D:=match py a,py b with
 | some x,some y=>if (dep a≤60∧dep b≤60)∧SeqAt.shaped x=true∧SeqAt.shaped y=true then some (.bl (if neg then !PyData.eqv x y else PyData.eqv x y)) else none
 | _,_=>none
theorem nM {neg:Bool} {a b d:D} (e:eqD neg a b=some d):∃x y,py a=some x∧py b=some y∧(dep a≤60∧dep b≤60)∧(SeqAt.shaped x=true∧SeqAt.shaped y=true)∧d=.bl (if neg then !PyData.eqv x y else PyData.eqv x y):=by
 unfold eqD at e
 cases e1:py a with
 | none=>rw[e1] at e;cases e
 | some x =>
  cases e2:py b with
  | none=>rw[e1,e2] at e;cases e
  | some y =>
   rw[e1,e2] at e
   dsimp only at e
   by_cases z:(dep a≤60∧dep b≤60)∧SeqAt.shaped x=true∧SeqAt.shaped y=true
   ·rw[if_pos z] at e;cases e;exact ⟨x,y,rfl,rfl,z.1,z.2,rfl⟩
   ·rw[if_neg z] at e;cases e
def oEq:Op2 where
 m:=opEq
 p:=eqD false
 fr:=true
 ok {q h L O a x b y d} bd wa wb e:=by
  obtain ⟨u,w,e1,e2,hd,hs,rfl⟩:=nM e
  unfold opEq
  rw[jx wa e1 hd.1,jx wb e2 hd.2]
  dsimp only
  rw[if_pos hs]
  exact gvB
def oNe:Op2 where
 m:=opNe
 p:=eqD true
 fr:=true
 ok {q h L O a x b y d} bd wa wb e:=by
  obtain ⟨u,w,e1,e2,hd,hs,rfl⟩:=nM e
  unfold opNe
  rw[jx wa e1 hd.1,jx wb e2 hd.2]
  dsimp only
  rw[if_pos hs]
  exact gvB
theorem Vw.seqOf {q:Nat} {h:MH} {L:Nat} {O:List Nat} {d:D} {v:PV} {ds:List D} (w:Vw q h L O d v) (e:d.items=some ds):∃xs,MM.bX h v=some xs∧Rps q h O ds xs:=by
 cases d with
 | lst es=>cases e;obtain ⟨n,xs,rfl,g,r⟩:=w.lst;exact ⟨xs,by simp[MM.bX,g],r⟩
 | tup es=>cases e;obtain ⟨xs,rfl,r⟩:=w.tup;exact ⟨xs,rfl,r⟩
 | _=>cases e
def inD (neg:Bool) (a b:D):Option D:=match b.items with
 | some ds=>(match py a,pys ds with
  | some x,some ys=>if (dep a≤60∧deps ds≤60)∧x.canLay0=true∧PyData.canLayAll0 ys=true then some (.bl (if neg then !ys.any (fun e=>PyData.eqv e x) else ys.any (fun e=>PyData.eqv e x))) else none
  | _,_=>none)
 | none=>none
def oIn (neg:Bool):Op2 where
 m:=opIn neg
 p:=inD neg
 fr:=true
 ok {q h L O a x b y d} bd wa wb e:=by
  unfold inD at e
  cases e0:b.items with
  | none=>rw[e0] at e;cases e
  | some ds =>
   rw[e0] at e
   dsimp only at e
   cases e1:py a with
   | none=>rw[e1] at e;cases e
   | some u =>
    cases e2:pys ds with
    | none=>rw[e1,e2] at e;cases e
    | some us =>
     rw[e1,e2] at e
     dsimp only at e
     by_cases z:(dep a≤60∧deps ds≤60)∧u.canLay0=true∧PyData.canLayAll0 us=true
     ·rw[if_pos z] at e;cases e
      obtain ⟨xs,es,r⟩:=wb.seqOf e0
      unfold opIn
      rw[es,jx wa e1 z.1.1]
      dsimp only
      rw[gS r e2 z.1.2]
      dsimp only
      rw[if_pos z.2]
      exact gvB
     ·rw[if_neg z] at e;cases e
end
noncomputable section
def oNeg:Op1 where
 m:=opNeg
 p:=fun a=>match a with
  | .int i=>some (.int (-i))
  | _=>none
 fr:=true
 ok {q h L O a x d} bd w e:=by
  cases a with
  | int i=>cases e;rw[w.int];exact gvI
  | _=>cases e
def tyD:D→Option String
 | .non=>some "NoneType"
 | .bl _=>some "bool"
 | .int _=>some "int"
 | .str _=>some "str"
 | .tup _=>some "tuple"
 | .lst _=>some "list"
 | .dic=>some "dict"
 | _=>none
theorem ty_ok {q:Nat} {h:MH} {L:Nat} {O:List Nat} {d:D} {v:PV} {t:String} (w:Vw q h L O d v) (e:tyD d=some t):tyP h v=some t:=by
 cases d with
 | non=>cases e;rw[w.non];rfl
 | bl b=>cases e;rw[w.bl];rfl
 | int b=>cases e;rw[w.int];rfl
 | str b=>cases e;rw[w.str];rfl
 | tup b=>cases e;obtain ⟨xs,rfl,_⟩:=w.tup;rfl
 | lst b=>cases e;obtain ⟨n,xs,rfl,g,_⟩:=w.lst;simp[tyP,g]
 | dic =>
  cases e
  rcases w with ⟨n,rfl,_,g⟩|⟨n,xs,ds,e,_⟩
  ·simp[tyP,g]
  ·cases e
 | _=>cases e
def oIsi (Ts:List String):Op1 where
 m:=fIsi Ts
 p:=fun a=>(tyD a).map fun t=>.bl (Ts.any (isaT t))
 fr:=true
 ok {q h L O a x d} bd w e:=by
  rw[Option.map_eq_some_iff] at e
  obtain ⟨t,e1,rfl⟩:=e
  unfold fIsi
  rw[ty_ok w e1]
  exact gvB
def cAbs:OpN where
 k:=fun xs h=>(fAbs xs h).ne
 p:=fun as=>match as with
  | [.int i]=>some (.int (if i<0 then -i else i))
  | _=>none
 fr:=true
 ok {q h L O as xs d} bd w e:=by
  match as,e with
  | [.int i],e=>cases e;obtain ⟨x,rfl,a⟩:=vws1 w;rw[a.int];exact gvI
def cInt:OpN where
 k:=fun xs h=>(fInt xs h).ne
 p:=fun as=>match as with
  | [.int i]=>some (.int i)
  | [.bl b]=>some (.int (if b then 1 else 0))
  | _=>none
 fr:=true
 ok {q h L O as xs d} bd w e:=by
  match as,e with
  | [.int i],e=>cases e;obtain ⟨x,rfl,a⟩:=vws1 w;rw[a.int];exact gvI
  | [.bl i],e=>cases e;obtain ⟨x,rfl,a⟩:=vws1 w;rw[a.bl];exact gvI
def cLen:OpN where
 k:=fun xs h=>(fLen xs h).ne
 p:=fun as=>match as with
  | [.lst ds]=>some (.int ds.length)
  | [.tup ds]=>some (.int ds.length)
  | [.str x]=>if x.length≤sizeLine then some (.int x.length) else none
  | _=>none
 fr:=true
 ok {q h L O as xs d} bd w e:=by
  match as,e with
  | [.lst ds],e =>
   cases e;obtain ⟨x,rfl,a⟩:=vws1 w;obtain ⟨n,ys,rfl,g,r⟩:=a.lst
   simp only[fLen,g];rw[r.length];exact gvI
  | [.tup ds],e =>
   cases e;obtain ⟨x,rfl,a⟩:=vws1 w;obtain ⟨ys,rfl,r⟩:=a.tup
   simp only[fLen];rw[r.length];exact gvI
  | [.str x],e =>
   dsimp only at e
   by_cases z:x.length≤sizeLine
   ·rw[if_pos z] at e
    cases e;obtain ⟨x,rfl,a⟩:=vws1 w;rw[a.str]
    simp only[fLen];rw[if_pos z];exact gvI
   ·rw[if_neg z] at e;cases e
def bh:OpN where
 k:=fun xs h=>(fList xs h).ne
 p:=fun as=>match as with
  | [d]=>d.items.bind fun ds=>if ds.length≤100000 then some (.lst ds) else none
  | _=>none
 fr:=true
 ok {q h L O as xs d} bd w e:=by
  match as,e with
  | [a],e =>
   obtain ⟨x,rfl,wx⟩:=vws1 w
   rw[Option.bind_eq_some_iff] at e
   obtain ⟨ds,e1,e2⟩:=e
   obtain ⟨xs,e3,r⟩:=wx.seqOf e1
   by_cases z:ds.length≤100000
   ·rw[if_pos z] at e2
    cases e2
    obtain ⟨v,g,e4,r4⟩:=ig bd r z
    exact ⟨v,g,by simp only[fList,e3];rw[e4];rfl,r4⟩
   ·rw[if_neg z] at e2;cases e2
def jB:OpN where
 k:=fun xs h=>(fTuple xs h).ne
 p:=fun as=>match as with
  | [d]=>d.items.map .tup
  | _=>none
 fr:=true
 ok {q h L O as xs d} bd w e:=by
  match as,e with
  | [a],e =>
   obtain ⟨x,rfl,wx⟩:=vws1 w
   rw[Option.map_eq_some_iff] at e
   obtain ⟨ds,e1,rfl⟩:=e
   obtain ⟨xs,e3,r⟩:=wx.seqOf e1
   simp only[fTuple,e3]
   exact gv0 ⟨xs,rfl,r⟩ fun _ _ e=>by cases e
def blsD:List D→Option (List Bool)
 | []=>some []
 | .bl b::r=>(blsD r).map (b::·)
 | _=>none
theorem oY {q:Nat} {h:MH} {O:List Nat}:∀{ds:List D} {xs:List PV} {bs:List Bool},Rps q h O ds xs→blsD ds=some bs→blsP xs=some bs
 | [],_,_,r,e=>by rw[show _=[] from r];cases e;rfl
 | d::ds,_,bs,⟨x,t,ex,a,b⟩,e=>by
  subst ex
  cases d with
  | bl c =>
   rw[show x=PV.bl c from a]
   rw[blsD,Option.map_eq_some_iff] at e
   obtain ⟨cs,e1,rfl⟩:=e
   rw[blsP,oY b e1];rfl
  | _=>cases e
def cAll:OpN where
 k:=fun xs h=>(fAll xs h).ne
 p:=fun as=>match as with
  | [d]=>(d.items.bind blsD).map fun bs=>.bl (bs.all id)
  | _=>none
 fr:=true
 ok {q h L O as xs d} bd w e:=by
  match as,e with
  | [a],e =>
   obtain ⟨x,rfl,wx⟩:=vws1 w
   rw[Option.map_eq_some_iff] at e
   obtain ⟨bs,e1,rfl⟩:=e
   rw[Option.bind_eq_some_iff] at e1
   obtain ⟨ds,e1,e2⟩:=e1
   obtain ⟨xs,e3,r⟩:=wx.seqOf e1
   simp only[fAll,e3,Option.bind_some,oY r e2]
   exact gvB
theorem lx {q:Nat} {h:MH} {O:List Nat}:∀(bs:List Int),Rps q h O (bs.map .int) (bs.map .int)
 | []=>rfl
 | b::bs=>⟨_,_,rfl,rfl,lx bs⟩
def rngD (lo:Int) (n:Nat):List D:=(List.range n).map fun (i:Nat)=>D.int (lo+(i:Int))
theorem rps_rng {q:Nat} {h:MH} {O:List Nat} {lo:Int} {n:Nat}:Rps q h O (rngD lo n) (br lo n):=by
 have:=lx (q:=q) (h:=h) (O:=O) ((List.range n).map fun (i:Nat)=>lo+(i:Int))
 rw[List.map_map,List.map_map] at this
 exact this
def iR1:OpI where
 k:=fun vs h1=>match vs with
  | [.int j]=>if -(2 ^ 62)≤j∧j<2 ^ 62 then .ok ⟨br 0 j.toNat,[]⟩ h1 else .bad
  | _=>.bad
 p:=fun as=>match as with
  | [.int j]=>if -100000≤j∧j≤100000 then some (rngD 0 j.toNat) else none
  | _=>none
 ok {q h L O as xs d} hq hO bd w e:=by
  match as,e with
  | [.int j],e =>
   obtain ⟨x,rfl,wx⟩:=vws1 w
   rw[wx.int]
   dsimp only at e
   by_cases z:-100000≤j∧j≤100000
   ·rw[if_pos z] at e
    cases e
    dsimp only
    rw[if_pos ⟨by omega,by omega⟩]
    exact ⟨_,rfl,rps_rng,(fun _ hg=>nomatch hg),fun _ _ hg=>nomatch hg⟩
   ·rw[if_neg z] at e;cases e
theorem Vw.sqAny {q:Nat} {h:MH} {L:Nat} {O:List Nat} {d:D} {v:PV} {ds:List D} (hq:q<L) (hO:q∈O) (w:Vw q h L O d v) (e:d.items=some ds):∃t xs gd,MM.cp v h=some (t,xs,gd)∧Rps q h O ds xs∧(∀g∈gd,h[g.1]?=some (.lst g.2)∧g.1≠q)∧(Rp q h O d v→∀g∈gd,g.1∉O):=by
 obtain ⟨xs,gd,e1,r,g1,g2⟩:=w.seq hq hO e
 cases d with
 | lst es =>
  cases e
  obtain ⟨n,ys,rfl,g,r'⟩:=w.lst
  simp only[itAny,g] at e1
  cases e1
  exact ⟨false,xs,[(n,xs)],by simp[MM.cp,g],r',g1,g2⟩
 | tup es =>
  cases e
  obtain ⟨ys,rfl,r'⟩:=w.tup
  simp only[itAny] at e1
  cases e1
  exact ⟨true,_,[],rfl,r',g1,g2⟩
 | _=>cases e
def zipD (xs ys:List D):List D:=(xs.zip ys).map fun p=>.tup [p.1,p.2]
theorem nN {q:Nat} {h:MH} {O:List Nat}:∀{ds es:List D} {xs ys:List PV},Rps q h O ds xs→Rps q h O es ys→Rps q h O (zipD ds es) (zipL xs ys)
 | [],_,_,_,r,_=>by rw[show _=[] from r];simp[zipD,zipL];rfl
 | _::_,[],_,_,r,r'=>by rw[show _=[] from r'];simp[zipD,zipL];rfl
 | d::ds,e::es,_,_,⟨x,t,e1,a,b⟩,⟨x',t',e1',a',b'⟩=>by
  subst e1 e1'
  exact ⟨_,_,rfl,⟨_,rfl,⟨_,_,rfl,a,⟨_,_,rfl,a',rfl⟩⟩⟩,nN b b'⟩
def iZ:OpI where
 k:=fun vs h1=>match vs with
  | [x,y]=>(match cp x h1,cp y h1 with
   | some (_,xs,g1),some (_,ys,g2)=>.ok ⟨zipL xs ys,g1++g2⟩ h1
   | _,_=>.bad)
  | _=>.bad
 p:=fun as=>match as with
  | [d,e]=>d.items.bind fun xs=>e.items.map fun ys=>zipD xs ys
  | _=>none
 ok {q h L O as xs d} hq hO bd w e:=by
  match as,e with
  | [a,b],e =>
   obtain ⟨x,y,rfl,wx,wy⟩:=vws2 w
   rw[Option.bind_eq_some_iff] at e
   obtain ⟨ds,e1,e⟩:=e
   rw[Option.map_eq_some_iff] at e
   obtain ⟨es,e2,rfl⟩:=e
   obtain ⟨t,ys,gd,f2,r,g1,g2⟩:=wx.sqAny hq hO e1
   obtain ⟨t',ys',gd',f2',r',g1',g2'⟩:=wy.sqAny hq hO e2
   refine ⟨⟨zipL ys ys',gd++gd'⟩,by simp only[f2,f2'],nN r r',fun g hg=>?_,fun z g hg=>?_⟩
   ·rcases List.mem_append.mp hg with z|z
    ·exact g1 g z
    ·exact g1' g z
   ·obtain ⟨x',r',e3,a1,x2,r2,e4,a2,_⟩:=z
    cases e3;cases e4
    rcases List.mem_append.mp hg with z|z
    ·exact g2 a1 g z
    ·exact g2' a2 g z
def cutD (xs:List D) (lo hi:Option Int):List D:=(xs.drop (HT.sIx xs.length 0 lo)).take (HT.sIx xs.length xs.length hi - HT.sIx xs.length 0 lo)
theorem m5 {q:Nat} {h:MH} {O:List Nat} {ds:List D} {xs:List PV} (lo hi:Option Int) (r:Rps q h O ds xs):Rps q h O (cutD ds lo hi) (cutP xs lo hi):=by
 unfold cutD cutP
 rw[r.length]
 exact (r.drop _).take _
structure Xo (ws:List Nat) where
 m:Mx (Option Int)
 p:DEnv→Pen→PR (Option Int)
 ok:∀{q h L B O σ env s},Cx q h L B O ws σ env s→Ok q h (m σ h) (p env s) (fun _ a b=>a=b)
section
variable {ws:List Nat}
def xNo:Xo ws where
 m:=mNo
 p:=fun _ s=>.ok none s
 ok {q h L B O σ env s} c:=⟨none,h,rfl,KB.refl _ _,c.pen,rfl⟩
def xPt (e:Xe ws):Xo ws where
 m:=mPt e.m
 p:=fun env s=>(e.p env s).bind fun d s=>match d with
  | .int i=>.ok (some i) s
  | _=>.bad
 ok {q h L B O σ env s} c:=by
  refine (e.ok c).bind fun x v h1 s1 k1 p1 ⟨w,_,_⟩=>?_
  cases x with
  | int i=>rw[w.int];exact ⟨some i,h1,rfl,KB.refl _ _,p1,rfl⟩
  | _=>trivial
def slD (d:D) (lo hi:Option Int):Option D:=match d with
 | .lst ds=>some (.lst (cutD ds lo hi))
 | .tup ds=>if HT.sIx ds.length 0 lo=0∧HT.sIx ds.length ds.length hi=ds.length then none else some (.tup (cutD ds lo hi))
 | _=>none
theorem sl_ok {q:Nat} {h:MH} {L:Nat} {O:List Nat} {a d:D} {x:PV} {lo hi:Option Int} (bd:Bd h O) (w:Vw q h L O a x) (e:slD a lo hi=some d):Gv q h O true (fSl x lo hi h) d:=by
 cases a with
 | lst ds =>
  cases e
  obtain ⟨n,xs,rfl,g,r⟩:=w.lst
  simp only[fSl,g]
  have r:=m5 lo hi r
  have m:Mv O h O (h++[MO.lst (cutP xs lo hi)]):=⟨fun n hn _=>List.getElem?_append_left hn,fun o ho=>.inl ho⟩
  have m2:Mv O h (h.length::O) (h++[MO.lst (cutP xs lo hi)]):=⟨fun n hn _=>List.getElem?_append_left hn,fun o ho=>by
   rcases List.mem_cons.mp ho with z|z
   ·exact .inr (by omega)
   ·exact .inl z⟩
  have g:(h++[MO.lst (cutP xs lo hi)])[h.length]?=some (.lst (cutP xs lo hi)):=by simp
  exact ⟨_,_,rfl,⟨_,_,rfl,fun z=>by have:=bd _ z;omega,g,r.mv m⟩,fun _ ds' e=>by cases e;exact ⟨_,_,rfl,Nat.le_refl _,g,r.mv m2⟩⟩
 | tup ds =>
  unfold slD at e
  dsimp only at e
  by_cases z:HT.sIx ds.length 0 lo=0∧HT.sIx ds.length ds.length hi=ds.length
  ·rw[if_pos z] at e;cases e
  ·rw[if_neg z] at e
   cases e
   obtain ⟨xs,rfl,r⟩:=w.tup
   simp only[fSl]
   rw[r.length,if_neg z]
   exact gv0 ⟨_,rfl,m5 lo hi r⟩ fun _ _ e=>by cases e
 | _=>cases e
def xSl (a:Xe ws) (lo hi:Xo ws):Xe ws where
 m:=mSl a.m lo.m hi.m
 p:=fun env s=>(a.p env s).bind fun x s=>(lo.p env s).bind fun l s=>(hi.p env s).bind fun u s=>.of (slD x l u) s
 fz:=true
 fr:=true
 ok {q h L B O σ env s} c:=by
  refine (a.ok c).bind fun x v h1 s1 k1 p1 ⟨w,_,_⟩=>?_
  have c1:=c.kb k1 p1
  refine (lo.ok c1).bind fun l l' h2 s2 k2 p2 e=>?_
  subst e
  have c2:=c1.kb k2 p2
  refine (hi.ok c2).bind fun u u' h3 s3 k3 p3 e=>?_
  subst e
  have c3:=c2.kb k3 p3
  cases e:slD x l u with
  | none=>trivial
  | some d =>
   obtain ⟨y,g,e1,r⟩:=sl_ok c3.bd ((w.kb k2 c.pO c.pL).kb k3 c.pO c.pL) e
   exact give (Nat.le_trans (Nat.le_trans k1.len k2.len) k3.len) p3 ⟨y,g,by rw[e1];rfl,r⟩
end
def jJ:OpM where
 m:=fR
 p:=fun ds as=>match as with
  | [a]=>if ds.length<100000 then some (.non,ds++[a]) else none
  | _=>none
 ok {q h O n xs ds as vs d ds'} g r ra e:=by
  match as,e with
  | [a],e =>
   obtain ⟨x,t,rfl,a,b⟩:=ra
   have:t=[]:=b
   subst this
   dsimp only at e
   by_cases z:ds.length<100000
   ·rw[if_pos z] at e
    cases e
    refine ⟨.non,xs++[x],?_,r.app ⟨x,[],rfl,a,rfl⟩,rfl⟩
    simp only[fR,g]
    rw[if_pos (by have:=gC;rw[r.length];omega)]
   ·rw[if_neg z] at e;cases e
end
section
variable {ws:List Nat} {env:DEnv} {s:Pen}
@[simp] theorem am {d:D} {r:DEnv}:(xVar 0:Xe ws).p (some d::r) s=.ok d s:=rfl
@[simp] theorem aq {i:Nat} {o:Option D} {r:DEnv}:(xVar (i+1):Xe ws).p (o::r) s=(xVar i:Xe ws).p r s:=by simp[xVar]
theorem xVar_at {i:Nat} {d:D} (e:env[i]?=some (some d)):(xVar i:Xe ws).p env s=.ok d s:=by
 show (match env[i]? with | some (some d)=>PR.ok d s | _=>.bad)=_
 rw[e]
@[simp] theorem xC_p {k:Cn}:(xC k:Xe ws).p env s=.ok k.d s:=rfl
@[simp] theorem cn_non:Cn.non.d=.non:=rfl
@[simp] theorem hU {b:Bool}:(Cn.bl b).d=.bl b:=rfl
@[simp] theorem aD {b:Int}:(Cn.int b).d=.int b:=rfl
@[simp] theorem cn_str {b:Str}:(Cn.str b).d=.str b:=rfl
@[simp] theorem aB {o:Op2} {a b:Xe ws}:(xBin o a b).p env s=(a.p env s).bind fun x s1=>(b.p env s1).bind fun y s2=>.of (o.p x y) s2:=rfl
@[simp] theorem f7 {o:Op1} {a:Xe ws}:(xUn o a).p env s=(a.p env s).bind fun x s1=>.of (o.p x) s1:=rfl
@[simp] theorem ar:(xNil:Xs ws).p env s=.ok [] s:=rfl
@[simp] theorem aj {a:Xe ws} {r:Xs ws}:(ab a r).p env s=(a.p env s).bind fun x s1=>(r.p env s1).bind fun y s2=>.ok (x::y) s2:=rfl
@[simp] theorem bK {o:OpN} {a:Xs ws}:(xCb o a).p env s=(a.p env s).bind fun x s1=>.of (o.p x) s1:=rfl
@[simp] theorem aA {f:Fn} {a:Xs ws} {h:a.fz=true}:(ai f a h).p env s=(a.p env s).bind f.p:=rfl
@[simp] theorem nI {f:Fn} {a:Xs ws} {h:f.fr=true}:(oA f a h).p env s=((a.p env s).bind f.p).bind fun d s=>if lend d=true then .ok d s else .bad:=rfl
@[simp] theorem bF {a:Xs ws} {h:a.fz=true}:(xLst a h).p env s=(a.p env s).bind fun x s1=>if x.length≤100000 then .ok (.lst x) s1 else .bad:=rfl
@[simp] theorem aU {a:Xs ws} {h:a.fz=true}:(xTup a h).p env s=(a.p env s).bind fun x s1=>if x.length≤100000 then .ok (.tup x) s1 else .bad:=rfl
@[simp] theorem xB_p {a:Xe ws}:(xB a).p env s=(a.p env s).bl:=rfl
@[simp] theorem jE {a:Xt ws}:(xNot a).p env s=(a.p env s).bind fun b s=>.ok (!b) s:=rfl
@[simp] theorem fM {a b:Xt ws}:(xAnd a b).p env s=(a.p env s).bind fun x s=>if x=true then b.p env s else .ok false s:=rfl
@[simp] theorem kK {a b:Xt ws}:(xOr a b).p env s=(a.p env s).bind fun x s=>if x=true then .ok true s else b.p env s:=rfl
@[simp] theorem xTrue_p:(xTrue:Xt ws).p env s=.ok true s:=rfl
@[simp] theorem ip {a b:Xe ws}:(fv a b).p env s=(a.p env s).bl.bind fun x s=>if x=true then (b.p env s).bl.bind fun y s=>.ok (.bl y) s else .ok (.bl false) s:=rfl
@[simp] theorem cu {o:OpI} {a:Xs ws}:(xItA o a).p env s=(a.p env s).bind fun x s1=>.of (o.p x) s1:=rfl
@[simp] theorem eQ {a:Xe ws}:(xItS a).p env s=(a.p env s).bind fun x s1=>.of x.items s1:=rfl
@[simp] theorem xNm_p {i:Nat} {h:ws.contains i=false} {d:D}:(xNm i h).p d env=some (env.set i (some d)):=rfl
@[simp] theorem xGl_p:(xGl:Xgs ws).p [] env=some env:=rfl
@[simp] theorem xGc_p {a:Xg ws} {t:Xgs ws} {d:D} {ds:List D}:(xGc a t).p (d::ds) env=(a.p d env).bind fun env1=>t.p ds env1:=rfl
@[simp] theorem xGp_p {t:Xgs ws} {n:Nat} {ds:List D}:(xGp t n).p (.tup ds) env=if ds.length=n then t.p ds env else none:=rfl
@[simp] theorem eL {nv:Nat} {fm:List Nat} {i:Xi ws} {ws':List Nat} {g:Xg ws'} {t:Xt ws'} {e:Xe ws'} {hw:cws nv fm ws=ws'} {hz:e.fz=true}:(aP nv fm i g t e hw hz).p env s=(i.p env s).bind fun ds s1=>if ds.length≤100000 then (match bB g.p t.p e.p ds (cenv nv fm env) s1 with
  | .ok r s2=>.ok (.lst r) s2
  | _=>.bad) else .bad:=rfl
@[simp] theorem kG:(xNo:Xo ws).p env s=.ok none s:=rfl
@[simp] theorem kE {e:Xe ws}:(xPt e).p env s=(e.p env s).bind fun d s=>match d with
  | .int i=>.ok (some i) s
  | _=>.bad:=rfl
@[simp] theorem kM {a:Xe ws} {lo hi:Xo ws}:(xSl a lo hi).p env s=(a.p env s).bind fun x s=>(lo.p env s).bind fun l s=>(hi.p env s).bind fun u s=>.of (slD x l u) s:=rfl
@[simp] theorem aF {a b:Xd ws}:(xSeq a b).p env s=(a.p env s).then b.p:=rfl
@[simp] theorem cy:(xSkip:Xd ws).p env s=.nx env s:=rfl
@[simp] theorem bH {e:Xe ws}:(xRet e).p env s=(e.p env s).go env fun d _ s=>.rt d s:=rfl
theorem jU {i:Nat} {h:ws.contains i=true} {d:D} (e:env[i]?=some (some d)):(oo i h).p env s=.rt d s:=by
 show (match env[i]? with | some (some d)=>PS.rt d s | _=>.bad)=_
 rw[e]
@[simp] theorem cL {t:Xt ws} {a b:Xd ws}:(xIf t a b).p env s=(t.p env s).go env fun x env s=>if x=true then a.p env s else b.p env s:=rfl
@[simp] theorem aR {i:Nat} {e:Xe ws} {hi:ws.contains i=false} {hz:e.fz=true}:(xSet i e hi hz).p env s=(e.p env s).go env fun d env s=>.nx (env.set i (some d)) s:=rfl
@[simp] theorem fW {i:Nat} {e:Xe ws} {hi:ws.contains i=true} {hz:e.fr=true}:(hR i e hi hz).p env s=(e.p env s).go env fun d env s=>match d with
  | .lst ds=>.nx (env.set i (some (.lst ds))) s
  | _=>.bad:=rfl
@[simp] theorem eS {i:Xi ws} {g:Xg ws} {b:Xd ws} {hz:i.fz=true}:(xFor i g b hz).p env s=(i.p env s).go env fun ds env s=>pGo g.p b.p ds env s:=rfl
@[simp] theorem xMt_p {o:OpM} {i:Nat} {a:Xs ws} {hi:ws.contains i=true} {hz:a.fz=true}:(xMt o i a hi hz).p env s=pMt o i a.p env s fun _=>.nx:=rfl
@[simp] theorem dZ {i:Nat} {e ix:Xe ws} {hi:ws.contains i=true} {hz:e.fz=true}:(xSub i e ix hi hz).p env s=pSub i e.p ix.p env s:=rfl
theorem bo {n np:Nat} {b:Xd ws} {hw} {ds:List D} (hl:ds.length=np):(xDef n np b hw).p ds s=(b.p (dSt n ds) s).fin:=by
 show (if ds.length=np then _ else _)=_
 rw[if_pos hl]
variable {i j:Int} {b:Bool} {x y:List D}
@[simp] theorem eI:oAdd.p (.int i) (.int j)=some (.int (i+j)):=rfl
theorem nh (h:x.length+y.length≤100000):oAdd.p (.lst x) (.lst y)=some (.lst (x++y)):=by
 show (if x.length+y.length≤100000 then _ else _)=_
 rw[if_pos h]
@[simp] theorem fN:oSub.p (.int i) (.int j)=some (.int (i - j)):=rfl
@[simp] theorem oLt_ii:oLt.p (.int i) (.int j)=some (.bl (decide (i<j))):=rfl
@[simp] theorem qf:oGt.p (.int i) (.int j)=some (.bl (decide (j<i))):=rfl
@[simp] theorem ca:oIx.p (.lst x) (.int j)=atI x j:=rfl
@[simp] theorem bO:oIx.p (.tup x) (.int j)=atI x j:=rfl
theorem oMod_ii (h:j≠0):oMod.p (.int i) (.int j)=some (.int (i.fmod j)):=by
 show (if j≠0 then _ else _)=_
 rw[if_pos h]
@[simp] theorem je {Ts:List String} {d:D}:(oIsi Ts).p d=(tyD d).map fun t=>.bl (Ts.any (isaT t)):=rfl
@[simp] theorem ty_non:tyD .non=some "NoneType":=rfl
@[simp] theorem kJ:tyD (.bl b)=some "bool":=rfl
@[simp] theorem ty_int:tyD (.int i)=some "int":=rfl
@[simp] theorem ty_str {z:Str}:tyD (.str z)=some "str":=rfl
@[simp] theorem ty_tup:tyD (.tup x)=some "tuple":=rfl
@[simp] theorem ty_lst:tyD (.lst x)=some "list":=rfl
@[simp] theorem ty_dic:tyD .dic=some "dict":=rfl
@[simp] theorem ph:cInt.p [.bl b]=some (.int (if b then 1 else 0)):=rfl
@[simp] theorem cInt_i:cInt.p [.int i]=some (.int i):=rfl
@[simp] theorem lR:cLen.p [.lst x]=some (.int x.length):=rfl
@[simp] theorem cLen_t:cLen.p [.tup x]=some (.int x.length):=rfl
theorem cg (h:x.length≤100000):bh.p [.lst x]=some (.lst x):=by
 show (if x.length≤100000 then _ else _)=_
 rw[if_pos h]
@[simp] theorem lN:jB.p [.lst x]=some (.tup x):=rfl
@[simp] theorem cTuple_t:jB.p [.tup x]=some (.tup x):=rfl
theorem dQ (h:-100000≤i∧i≤100000):iR1.p [.int i]=some (rngD 0 i.toNat):=by
 show (if _ then _ else _)=_
 rw[if_pos h]
@[simp] theorem iZ_ll:iZ.p [.lst x,.lst y]=some (zipD x y):=rfl
@[simp] theorem iZ_tt:iZ.p [.tup x,.tup y]=some (zipD x y):=rfl
@[simp] theorem kI {lo hi:Option Int}:slD (.lst x) lo hi=some (.lst (cutD x lo hi)):=rfl
theorem pd {a:D} (h:x.length<100000):jJ.p x [a]=some (.non,x++[a]):=by
 show (if _ then _ else _)=_
 rw[if_pos h]
end
section
variable {i j:Int} {b c:Bool}
theorem fu {x:PyData} (h1:x.canLay0=true) (h2:x.depth≤64):SeqAt.shaped x=true:=by simp[SeqAt.shaped,h1,h2]
@[simp] theorem bR {neg:Bool}:eqD neg (.int i) (.int j)=some (.bl (if neg then !decide (i=j) else decide (i=j))):=by
 simp[eqD,py,dep,SeqAt.shaped,PyData.canLay0,PyData.depth,PyData.eqv,Bool.beq_eq_decide_eq]
@[simp] theorem jo {neg:Bool}:eqD neg (.bl b) (.bl c)=some (.bl (if neg then !(b == c) else b == c)):=by
 simp[eqD,py,dep,SeqAt.shaped,PyData.canLay0,PyData.depth,PyData.eqv]
@[simp] theorem ce {a d:D}:oEq.p a d=eqD false a d:=rfl
@[simp] theorem eD {a d:D}:oNe.p a d=eqD true a d:=rfl
@[simp] theorem iz {neg:Bool} {a d:D}:(oIn neg).p a d=inD neg a d:=rfl
theorem lh:∀(k:List Int),pys (k.map .int)=some (k.map .int)∧deps (k.map .int)=0
 | []=>⟨rfl,rfl⟩
 | i::k=>by
  obtain ⟨a,b⟩:=lh k
  simp[pys,py,a,deps,dep,b]
theorem ko {x:Int}:∀(xs:List Int),(xs.map PyData.int).any (fun e=>PyData.eqv e (.int x))=decide (x∈xs)
 | []=>by simp
 | y::ys=>by
  rw[List.map_cons,List.any_cons,ko ys]
  have:PyData.eqv (.int y) (.int x)=decide (x=y):=by
   simp[PyData.eqv,Bool.beq_eq_decide_eq,eq_comm]
  rw[this]
  by_cases z:x=y <;> simp[z]
theorem iE:∀(k k':List Int),PyData.eqvAll (k.map .int) (k'.map .int)=decide (k=k')
 | [],[]=>by simp[PyData.eqvAll]
 | [],_::_=>by simp[PyData.eqvAll]
 | _::_,[]=>by simp[PyData.eqvAll]
 | a::k,b::k'=>by
  simp only[List.map_cons,PyData.eqvAll,PyData.eqv,iE k k',Bool.beq_eq_decide_eq]
  by_cases z:a=b <;> simp[z]
theorem qa {neg:Bool} {x:Int} {d:D} {xs:List Int} (e:d.items=some (xs.map .int)):inD neg (.int x) d=some (.bl (if neg then !decide (x∈xs) else decide (x∈xs))):=by
 obtain ⟨a,b⟩:=lh xs
 simp only[inD,e,py,a]
 rw[if_pos ⟨⟨by simp[dep],by omega⟩,rfl,(li xs).1⟩,ko]
end
@[simp] theorem pGo_nil {g:D→DEnv→Option DEnv} {b:DEnv→Pen→PS} {env:DEnv} {s:Pen}:pGo g b [] env s=.nx env s:=rfl
theorem f9 {g:D→DEnv→Option DEnv} {b:DEnv→Pen→PS} {d:D} {ds:List D} {env env1:DEnv} {s:Pen} (e:g d env=some env1):pGo g b (d::ds) env s=(b env1 s).turn (pGo g b ds):=by
 rw[pGo,e]
theorem fT {g:D→DEnv→Option DEnv} {b:DEnv→Pen→PS} (I:Nat→DEnv→Pen→Prop):∀(ds:List D) (j:Nat) (env:DEnv) (s:Pen),I j env s →
  (∀m env s d,I (j+m) env s→ds[m]?=some d→∃env1 env' s',g d env=some env1∧b env1 s=.nx env' s'∧I (j+m+1) env' s')→∃env' s',pGo g b ds env s=.nx env' s'∧I (j+ds.length) env' s'
 | [],j,env,s,hI,_=>⟨env,s,rfl,hI⟩
 | d::ds,j,env,s,hI,st=>by
  obtain ⟨env1,env2,s2,e1,e2,I2⟩:=st 0 env s d hI rfl
  obtain ⟨env3,s3,e3,I3⟩:=fT I ds (j+1) env2 s2 I2 fun m env' s' x q z=>by
   have:=st (m+1) env' s' x (by rw[show j+(m+1)=j+1+m by omega];exact q) (by simpa using z)
   rw[show j+(m+1)+1=j+1+m+1 by omega] at this
   exact this
  refine ⟨env3,s3,?_,by rw[List.length_cons,show j+(ds.length+1)=j+1+ds.length by omega];exact I3⟩
  rw[f9 e1,e2];exact e3
theorem jn {g:D→DEnv→Option DEnv} {t:DEnv→Pen→PR Bool} {e:DEnv→Pen→PR D} {s:Pen} {fr:DEnv} {nv:Nat} (p:D→Bool) (f:D→D):∀(ds:List D) (vs:DEnv),vs.length=nv →
  (∀x∈ds,∀vs:DEnv,vs.length=nv→∃vs':DEnv,vs'.length=nv∧g x (vs++fr)=some (vs'++fr)∧t (vs'++fr) s=.ok (p x) s∧(p x=true→e (vs'++fr) s=.ok (f x) s))→bB g t e ds (vs++fr) s=.ok ((ds.filter p).map f) s
 | [],vs,hv,body=>rfl
 | x::ds,vs,hv,body=>by
  obtain ⟨vs',hv',e1,e2,e3⟩:=body x (by simp) vs hv
  have ih:=jn p f ds vs' hv' fun y hy=>body y (List.mem_cons_of_mem _ hy)
  rw[bB,e1]
  dsimp only
  rw[e2]
  cases hp:p x with
  | true=>simp only[PR.bind_ok,if_true,e3 hp,ih,List.filter_cons_of_pos hp,List.map_cons]
  | false=>simp only[PR.bind_ok,Bool.false_eq_true,if_false,ih,List.filter_cons_of_neg (show ¬p x=true by simp[hp])]
theorem om {ws ws':List Nat} {env:DEnv} {s:Pen} {nv:Nat} {fm:List Nat} {i:Xi ws} {g:Xg ws'} {t:Xt ws'} {e:Xe ws'} {hw:cws nv fm ws=ws'} {hz:e.fz=true} {ds:List D} (p:D→Bool) (f:D→D) (ei:i.p env s=.ok ds s) (hl:ds.length≤100000)
  (body:∀x∈ds,∀vs:DEnv,vs.length=nv→∃vs':DEnv,vs'.length=nv∧g.p x (vs++fm.map fun i=>(env[i]?).getD none)=some (vs'++fm.map fun i=>(env[i]?).getD none)∧t.p (vs'++fm.map fun i=>(env[i]?).getD none) s=.ok (p x) s∧(p x=true→e.p (vs'++fm.map fun i=>(env[i]?).getD none) s=.ok (f x) s)) :
  (aP nv fm i g t e hw hz).p env s=.ok (.lst ((ds.filter p).map f)) s:=by
 rw[eL,ei,PR.bind_ok,if_pos hl]
 unfold cenv
 rw[jn p f ds _ (by simp) body]
theorem comp2 {ws ws':List Nat} {env:DEnv} {s:Pen} {fm:List Nat} {i:Xi ws} {t:Xt ws'} {e:Xe ws'} {ds:List D} (p:D→Bool) (f:D→D) (ei:i.p env s=.ok ds s) (hl:ds.length≤100000)
  (body:∀x∈ds,∃a b,x=.tup [a,b]∧t.p (some a::some b::fm.map fun i=>(env[i]?).getD none) s=.ok (p x) s∧(p x=true→e.p (some a::some b::fm.map fun i=>(env[i]?).getD none) s=.ok (f x) s)) (h0:ws'.contains 0=false:=by exact ys rfl) (h1:ws'.contains 1=false:=by exact ys rfl) (hw:cws 2 fm ws=ws':=by exact ys rfl) (hz:e.fz=true:=by exact ys rfl) :
  (aP 2 fm i (xGp (xGc (xNm 0 h0) (xGc (xNm 1 h1) xGl)) 2) t e hw hz).p env s=.ok (.lst ((ds.filter p).map f)) s :=
 om p f ei hl fun x hx vs hv=>match vs,hv with
  | [_,_],_=>let ⟨a,b,e,q⟩:=body x hx;⟨[some a,some b],rfl,by subst e;rfl,q⟩
end PU
namespace PU
open PySem MM SetT SortT
open L2 (ixN atI CPow)
theorem bx {α:Type} (l:List α):(l.filter fun _=>true)=l:=List.filter_eq_self.mpr (by simp)
theorem e9 {i:Int} (h:0≤i):∃n:Nat,i=(n:Int):=⟨i.toNat,by omega⟩
end PU
namespace PU
open PySem MM SetT SortT
open L2 (ixN atI CPow)
noncomputable local instance (priority:=1) cdecN10 (p:Prop):Decidable p:=Classical.propDecidable p
noncomputable section
section
variable {ws:List Nat}
structure OpR where
 m:Nat→List PV→MH→Out PV
 p:List D→List D→Option D
 ok:∀{q:Nat} {h:MH} {L:Nat} {O:List Nat} {n:Nat} {xs:List PV} {ds as:List D} {vs:List PV} {d:D},h[n]?=some (.lst xs)→Rps q h O ds xs→Vws q h L O as vs→p ds as=some d→∃v,m n vs h=.ok v h∧Rp q h O d v∧∀es,d≠.lst es
end
section
variable {ws:List Nat} {env:DEnv} {s:Pen}
end
end
noncomputable section
section
variable {ws:List Nat}
def xPar (i j:Nat) (a:Xs ws) (hi:ws.contains i=false:=by exact ys rfl) (hj:ws.contains j=false:=by exact ys rfl) (hz:a.fz=true:=by exact ys rfl):Xd ws where
 m:=mPar i j a.m
 p:=fun env s=>(a.p env s).go env fun ds env s=>match ds with
  | [x,y]=>.nx ((env.set i (some x)).set j (some y)) s
  | _=>.bad
 fr:=true
 ok {q h L B O σ env s} c d:=by
  refine SOk.ex (f:=fun vs σ h=>match vs with | [v,w]=>.nx ((σ.set i (some v)).set j (some w)) h | _=>.bad) (g:=fun ds env s=>match ds with | [x,y]=>.nx ((env.set i (some x)).set j (some y)) s | _=>.bad) c d (a.ok c) fun xs vs h1 s1 kb c1 ⟨_,z⟩=>?_
  have z:=z hz
  match xs,z with
  | [],_=>trivial
  | [_],_=>trivial
  | [x,y],z =>
   obtain ⟨v,t,rfl,rv,t2⟩:=z
   obtain ⟨w,t3,rfl,rw',rfl⟩:=t2
   obtain ⟨a1,b1⟩:=c1.sr.set (i:=i) (fun z=>by simp[z] at hi) rv
   obtain ⟨a2,b2⟩:=a1.set (i:=j) (fun z=>by simp[z] at hj) rw'
   exact ⟨_,h1,rfl,O,Stp.refl _ _ _ _,⟨c1.bd,c1.sub,c1.bb,c1.pb,c1.hL,c1.pen,a2⟩,(d.keep b1).keep b2⟩
  | _::_::_::_,_=>trivial
variable {env:DEnv} {s:Pen}
@[simp] theorem pc {i j:Nat} {a:Xs ws} {hi:ws.contains i=false} {hj:ws.contains j=false} {hz:a.fz=true}:(xPar i j a hi hj hz).p env s=(a.p env s).go env fun ds env s=>match ds with
  | [x,y]=>.nx ((env.set i (some x)).set j (some y)) s
  | _=>.bad:=rfl
end
end
noncomputable section
def fU:List D→Option (List (Int × D))
 | []=>some []
 | .tup [.int k,v]::r=>(fU r).map ((k,v)::·)
 | _=>none
def dgD (x:D):Option (List (Int × D)):=match x with
 | .tup ps=>(match fU ps with
  | some kvs=>if (kvs.map (·.1)).Nodup then some kvs else none
  | none=>none)
 | _=>none
def atD (kvs:List (Int × D)) (i:Int) (d:D):D:=((kvs.find? fun kv=>kv.1=i).map (·.2)).getD d
def Rkv (q:Nat) (h:MH) (O:List Nat):List (Int × D)→List (Int × PV)→Prop
 | [],r=>r=[]
 | a::t,r=>∃b u,r=b::u∧a.1=b.1∧Rp q h O a.2 b.2∧Rkv q h O t u
theorem pA {q:Nat} {h:MH} {O:List Nat}:∀{ds:List D} {xs:List PV} {kvs:List (Int × D)},Rps q h O ds xs→fU ds=some kvs→∃ks,eR xs=some ks∧Rkv q h O kvs ks:=by
 intro ds
 induction ds with
 | nil=>intro xs kvs r e;rw[show xs=[] from r];cases e;exact ⟨[],rfl,rfl⟩
 | cons d ds ih =>
  intro xs kvs r e
  obtain ⟨x,t,rfl,r1,r2⟩:=r
  unfold fU at e
  split at e
  ·rename_i z;cases z
  ·rename_i k0 v0 r0 z
   injection z with z1 z2
   subst z1 z2
   rw[Option.map_eq_some_iff] at e
   obtain ⟨kvs',e1,rfl⟩:=e
   obtain ⟨ks,e2,e3⟩:=ih r2 e1
   obtain ⟨us,rfl,a,us1,rfl,ra,b,us2,rfl,rb,rfl⟩:=r1
   rw[show a=PV.int k0 from ra]
   exact ⟨(k0,b)::ks,by unfold eR;rw[e2];rfl,_,_,rfl,rfl,rb,e3⟩
  ·cases e
theorem Rkv.keys {q:Nat} {h:MH} {O:List Nat}:∀{kvs:List (Int × D)} {ks:List (Int × PV)},Rkv q h O kvs ks→ks.map (·.1)=kvs.map (·.1)
 | [],_,r=>by rw[show _=[] from r];rfl
 | a::t,_,⟨b,u,e,e1,_,r⟩=>by rw[e,List.map_cons,List.map_cons,e1,Rkv.keys r]
theorem Rkv.mv {q:Nat} {h h':MH} {O O':List Nat} (m:Mv O h O' h'):∀{kvs:List (Int × D)} {ks:List (Int × PV)},Rkv q h O kvs ks→Rkv q h' O' kvs ks
 | [],_,r=>r
 | a::t,_,⟨b,u,e,e1,e2,r⟩=>⟨b,u,e,e1,e2.mv m,Rkv.mv m r⟩
theorem Rkv.at {q:Nat} {h:MH} {O:List Nat} {i:Int} {d:D} {v:PV}:∀{kvs:List (Int × D)} {ks:List (Int × PV)},Rkv q h O kvs ks→(atD kvs i d=d∧atK ks i v=v)∨Rp q h O (atD kvs i d) (atK ks i v)
 | [],_,r=>by rw[show _=[] from r];exact .inl ⟨rfl,rfl⟩
 | a::t,_,⟨b,u,e,e1,e2,r⟩=>by
  subst e
  unfold atD atK
  rw[List.find?_cons,List.find?_cons]
  by_cases z:a.1=i
  ·have z':b.1=i:=e1▸z
   simp only[z,z',decide_true]
   exact .inr e2
  ·have z':¬b.1=i:=fun q=>z (e1.trans q)
   simp only[z,z',decide_false]
   exact Rkv.at (i:=i) (d:=d) (v:=v) r
theorem dg_inv {q:Nat} {h:MH} {O:List Nat} {x:D} {v:PV} {kvs:List (Int × D)} (r:Rp q h O x v) (e:dgD x=some kvs):∃ks,dgP v=some ks∧Rkv q h O kvs ks:=by
 unfold dgD at e
 split at e
 ·rename_i ps
  split at e
  ·rename_i kvs' ep
   split at e
   ·rename_i nd
    cases e
    obtain ⟨xs,rfl,r⟩:=r
    obtain ⟨ks,e1,e2⟩:=pA r ep
    refine ⟨ks,?_,e2⟩
    simp only[dgP,e1]
    rw[if_pos (by rw[e2.keys];exact nd)]
   ·cases e
  ·cases e
 ·cases e
section
variable {ws:List Nat}
def xDg (a:Xe ws) (as:Xs ws):Xe ws where
 m:=mDg a.m as.m
 p:=fun env s=>(a.p env s).bind fun x s1=>match dgD x with
  | some kvs=>(as.p env s1).bind fun y s2=>match y with
   | [.int i,d]=>.ok (atD kvs i d) s2
   | _=>.bad
  | none=>.bad
 fz:=as.fz
 fr:=false
 ok {q h L B O σ env s} c:=by
  refine (a.ok c).bind fun x v h1 s1 k1 p1 ⟨w,_,_⟩=>?_
  cases ed:dgD x with
  | none=>trivial
  | some kvs =>
   have c1:=c.kb k1 p1
   have rx:Rp q h1 O x v:=by
    rcases w with r|⟨n,xs,ds,e,_⟩
    ·exact r
    ·rw[e] at ed;cases ed
   obtain ⟨ks,e1,rk⟩:=dg_inv rx ed
   rw[e1]
   dsimp only
   refine (as.ok c1).bind fun y vs h2 s2 k2 p2 ⟨w2,z2⟩=>?_
   have rk2:=rk.mv (k2.mv c.pO)
   match y,w2,z2 with
   | [.int i,d],w2,z2 =>
    obtain ⟨v1,t1,rfl,u1,v2,t2,rfl,u2,rfl⟩:=w2
    rw[u1.int]
    dsimp only
    refine ⟨_,h2,rfl,KB.refl _ _,p2,?_,fun z=>?_,fun z=>by cases z⟩
    ·rcases rk2.at (i:=i) (d:=d) (v:=v2) with ⟨e3,e4⟩|r
     ·rw[e3,e4];exact u2
     ·exact .inl r
    ·obtain ⟨_,_,e5,_,_,_,e6,r6,_⟩:=z2 z
     cases e5;cases e6
     rcases rk2.at (i:=i) (d:=d) (v:=v2) with ⟨e3,e4⟩|r
     ·rw[e3,e4];exact r6
     ·exact r
   | [],_,_=>trivial
   | [x1],_,_=>cases x1 <;> trivial
   | .non::_::_,_,_=>trivial
   | .bl _::_::_,_,_=>trivial
   | .str _::_::_,_,_=>trivial
   | .tup _::_::_,_,_=>trivial
   | .lst _::_::_,_,_=>trivial
   | .dic::_::_,_,_=>trivial
   | .exc _::_::_,_,_=>trivial
   | .pen::_::_,_,_=>trivial
   | .int _::_::_::_,_,_=>trivial
def xCT (i j:Int):Xe ws where
 m:=mC (.tup [.int i,.int j])
 p:=fun _ s=>.ok (.tup [.int i,.int j]) s
 fz:=true
 fr:=true
 ok {q h L B O σ env s} c:=by
  have r:Rp q h O (.tup [.int i,.int j]) (.tup [.int i,.int j]):=⟨_,rfl,_,_,rfl,rfl,_,_,rfl,rfl,rfl⟩
  exact ⟨_,h,rfl,KB.refl _ _,c.pen,.inl r,fun _=>r,fun _ ds e=>by cases e⟩
def fe (i:Nat) (e:DEnv→Pen→PR D) (b1 b2:DEnv→Pen→PS) (env:DEnv) (s:Pen):PS:=match e env s with
 | .ok (.lst ds) s1=>(match (b1 (env.set i (some (.lst ds))) s1).then b2 with
  | .nx env' s2=>(match env'[i]? with
   | some (some d)=>.nx env' s2
   | _=>.bad)
  | _=>.bad)
 | _=>.bad
theorem Rps.own {q:Nat} {h:MH} {O O':List Nat} (hs:∀o∈O',o∈O):Mv O h O' h:=⟨fun _ _ _=>rfl,fun o ho=>.inl (hs o ho)⟩
def cn (i:Nat) (m:Mst):Prop:=∀σ h σ' h',m σ h=.nx σ' h'→σ'[i]?=σ[i]?
def jz (i:Nat) (e:Xe ws) (b1 b2:Xd (i::ws)) (r:Xd ws) (k1:cn i b1.m) (k2:cn i b2.m)
  (hi:ws.contains i=false:=by exact ys rfl) (hz:e.fr=true:=by exact ys rfl):Xd ws where
 m:=mSeq (mSet i e.m) (mSeq b1.m (mSeq b2.m r.m))
 p:=fun env s=>(fe i e.p b1.p b2.p env s).then r.p
 fr:=r.fr
 ok {q h L B O σ env s} c d:=by
  have hi':i∉ws:=fun z=>by simp[z] at hi
  cases ep:fe i e.p b1.p b2.p env s with
  | nx env' s2 =>
   unfold fe at ep
   split at ep
   ·rename_i ds s1 ee
    split at ep
    ·rename_i env'' s2' eb
     split at ep
     ·rename_i dd ed
      cases ep
      have k:=e.ok c
      rw[ee] at k
      obtain ⟨v,h1,em,kb,pn,_,_,f⟩:=k
      obtain ⟨n,xs,rfl,hn,g,rr⟩:=f hz ds rfl
      have c1:=c.kb kb pn
      have mv:Mv O h (n::O) h1:=⟨fun m hm no=>kb.keep m hm fun z=>no (z▸c.pO),fun o ho=>by
       rcases List.mem_cons.mp ho with z|z
       ·exact .inr (by omega)
       ·exact .inl z⟩
      have hnO:n∉O:=fun z=>by have:=c.bd n z;omega
      have st1:Stp q L h O h1 (n::O):=⟨kb.len,mv,fun o ho=>List.mem_cons_of_mem _ ho,fun m hm hq=>kb.keep m (Nat.lt_of_lt_of_le hm c.hL) hq⟩
      have cx1:Cx q h1 L B (n::O) (i::ws) (σ.set i (some (.loc n))) (env.set i (some (.lst ds))) s1:=by
       refine ⟨fun o ho=>?_,fun o ho=>List.mem_cons_of_mem _ (c.sub o ho),c.bb,c.pb,c1.hL,pn,?_⟩
       ·rcases List.mem_cons.mp ho with z|z
        ·subst z;exact aW g
        ·exact c1.bd o z
       ·have sr:=c.sr.mv mv (fun o ho=>List.mem_cons_of_mem _ ho) fun m hm hl _=>kb.keep m hm (by have:=c.pL;omega)
        refine ⟨by simp[sr.len],fun j x ej hj=>?_,fun j x ej hj=>?_⟩
        ·have ne:i≠j:=fun z=>hj (by simp[z])
         rw[List.getElem?_set_ne ne] at ej
         rw[List.getElem?_set_ne ne]
         exact sr.fz j x ej fun z=>hj (List.mem_cons_of_mem _ z)
        ·by_cases z:i=j
         ·subst z
          have hl:i<env.length:=by have:=(List.getElem?_eq_some_iff.mp ej).1;simpa using this
          rw[List.getElem?_set_self hl] at ej
          cases ej
          exact ⟨n,xs,ds,rfl,List.getElem?_set_self (by rw[sr.len];exact hl),by simp,by have:=c.hL;omega,g,rr⟩
         ·rw[List.getElem?_set_ne z] at ej
          rw[List.getElem?_set_ne z]
          exact sr.ow j x ej ((List.mem_cons.mp hj).resolve_left fun q=>z q.symm)
      have ds1:Dis (i::ws) (σ.set i (some (.loc n))) (env.set i (some (.lst ds))):=by
       have old:∀j d,j∈ws→i≠j→(env.set i (some (.lst ds)))[j]?=some (some d)→(σ.set i (some (.loc n)))[j]?≠some (some (.loc n)):=fun j d hj ne ej z=>by
        rw[List.getElem?_set_ne ne] at ej z
        obtain ⟨n',_,_,_,b2,b3,_⟩:=c.sr.ow j d ej hj
        rw[z] at b2
        cases b2
        exact hnO b3
       intro a b ha hb ne x y m ea eb es
       by_cases z1:i=a
       ·subst z1
        have hl:i<σ.length:=by have:=(List.getElem?_eq_some_iff.mp es).1;simpa using this
        rw[List.getElem?_set_self hl] at es
        cases es
        exact old b y ((List.mem_cons.mp hb).resolve_left fun q=>ne q.symm) ne eb
       ·have ha':a∈ws:=(List.mem_cons.mp ha).resolve_left fun q=>z1 q.symm
        by_cases z2:i=b
        ·subst z2
         intro z
         have hl:i<σ.length:=by have:=(List.getElem?_eq_some_iff.mp z).1;simpa using this
         rw[List.getElem?_set_self hl] at z
         cases z
         exact old a x ha' z1 ea es
        ·have hb':b∈ws:=(List.mem_cons.mp hb).resolve_left fun q=>z2 q.symm
         rw[List.getElem?_set_ne z1] at ea es
         rw[List.getElem?_set_ne z2] at eb ⊢
         exact d a b ha' hb' ne x y m ea eb es
      have kk:=(xSeq b1 b2).ok cx1 ds1
      have eb':(xSeq b1 b2).p (env.set i (some (.lst ds))) s1=.nx env' s2:=eb
      rw[eb'] at kk
      obtain ⟨σ',h2,e2,O2,st2,cx2,ds2⟩:=kk
      have hσ:σ'[i]?=(σ.set i (some (.loc n)))[i]?:=by
       have e3:(match b1.m (σ.set i (some (.loc n))) h1 with | .nx σ h=>b2.m σ h | o=>o)=.nx σ' h2:=e2
       cases q1:b1.m (σ.set i (some (.loc n))) h1 with
       | nx σ1 h3 =>
        rw[q1] at e3
        rw[k2 _ _ _ _ e3,k1 _ _ _ _ q1]
       | _=>rw[q1] at e3;cases e3
      have hni:σ'[i]?=some (some (.loc n)):=by
       obtain ⟨_,_,_,_,es,_⟩:=cx2.sr.ow i dd ed (by simp)
       rw[hσ] at es ⊢
       have hl:=(List.getElem?_eq_some_iff.mp es).1
       exact List.getElem?_set_self (by simpa using hl)
      have hsub:∀o∈O2.filter (fun o=>o != n),o∈O2:=fun o ho=>(List.mem_filter.mp ho).1
      have hin:∀o,o∈O2→o≠n→o∈O2.filter (fun o=>o != n):=fun o ho ne=>List.mem_filter.mpr ⟨ho,by simpa using ne⟩
      have hout:n∉O2.filter (fun o=>o != n):=fun z=>by simpa using (List.mem_filter.mp z).2
      have st:Stp q L h O h2 (O2.filter (fun o=>o != n)):=by
       have t:=st1.trans st2
       exact ⟨t.len,⟨t.mv.keep,fun o ho=>t.mv.new o (hsub o ho)⟩,fun o ho=>hin o (t.sub o ho) fun z=>hnO (z▸ho),t.base⟩
      have mvr:Mv O2 h2 (O2.filter (fun o=>o != n)) h2:=Rps.own (q:=q) hsub
      have cx3:Cx q h2 L B (O2.filter (fun o=>o != n)) ws σ' env' s2:=by
       refine ⟨fun o ho=>cx2.bd o (hsub o ho),fun o ho=>hin o (cx2.sub o ho) fun z=>?_,c.bb,c.pb,cx2.hL,cx2.pen,cx2.sr.len,fun j x ej hj=>?_,fun j x ej hj=>?_⟩
       ·have:=c.bb o ho
        have:=c.hL
        omega
       ·by_cases z:j=i
        ·subst z
         obtain ⟨n',xs',ds',e1,e2,_,_,g',r'⟩:=cx2.sr.ow j x ej (by simp)
         rw[hni] at e2
         cases e2
         exact ⟨.loc n,hni,by rw[e1];exact ⟨n,xs',rfl,hout,g',r'.mv mvr⟩⟩
        ·obtain ⟨v,e1,r1⟩:=cx2.sr.fz j x ej fun q=>(List.mem_cons.mp q).elim z hj
         exact ⟨v,e1,r1.mv mvr⟩
       ·have ne:i≠j:=fun z=>hi' (z▸hj)
        obtain ⟨n',xs',ds',e1,es2,es3,e4,g',r'⟩:=cx2.sr.ow j x ej (List.mem_cons_of_mem _ hj)
        have hne:n'≠n:=fun z=>by
         subst z
         exact ds2 i j (by simp) (List.mem_cons_of_mem _ hj) ne dd x _ ed ej hni es2
        exact ⟨n',xs',ds',e1,es2,hin n' es3 hne,e4,g',r'.mv mvr⟩
      have dis3:Dis ws σ' env':=fun a b ha hb=>ds2 a b (List.mem_cons_of_mem _ ha) (List.mem_cons_of_mem _ hb)
      have fin:=(r.ok cx3 dis3).after st
      have em':mSet i e.m σ h=.nx (σ.set i (some (.loc n))) h1:=by unfold mSet mEx;rw[em]
      have e3:(match b1.m (σ.set i (some (.loc n))) h1 with | .nx σ h=>b2.m σ h | o=>o)=.nx σ' h2:=e2
      have eall:mSeq (mSet i e.m) (mSeq b1.m (mSeq b2.m r.m)) σ h=r.m σ' h2:=by
       show (mSet i e.m σ h).then (mSeq b1.m (mSeq b2.m r.m))=_
       rw[em']
       show (b1.m (σ.set i (some (.loc n))) h1).then (mSeq b2.m r.m)=_
       cases q1:b1.m (σ.set i (some (.loc n))) h1 with
       | nx σ1 h3 =>
        rw[q1] at e3
        show (b2.m σ1 h3).then r.m=_
        rw[show b2.m σ1 h3=.nx σ' h2 from e3]
        rfl
       | _=>rw[q1] at e3;cases e3
      rw[eall,aw]
      exact fin
     ·cases ep
    ·cases ep
   ·cases ep
  | bad=>trivial
  | _ =>
   exfalso
   unfold fe at ep
   repeat' split at ep
   all_goals cases ep
theorem dI {i j:Nat} {e ix:Xe ws} {hi hz}:cn j (xSub (ws:=ws) i e ix hi hz).m:=by
 intro σ h σ' h' z
 have z:mAsg e.m (gSb (mVar i) ix.m) σ h=.nx σ' h':=z
 simp only[mAsg,mEx,gSb] at z
 split at z
 ·split at z
  ·rename_i q
   cases z
   repeat' split at q
   all_goals first | (cases q;rfl) | cases q
  ·cases z
  ·cases z
 ·cases z
 ·cases z
theorem lm {i j:Nat} {m:Mx PV} (ne:i≠j):cn j (mSet i m):=by
 intro σ h σ' h' z
 unfold mSet mEx at z
 split at z
 ·cases z
  exact List.getElem?_set_ne ne
 ·cases z
 ·cases z
theorem gp {j:Nat} {a b:Mst} (ka:cn j a) (kb:cn j b):cn j (mSeq a b):=by
 intro σ h σ' h' z
 have z:(a σ h).then b=.nx σ' h':=z
 cases q:a σ h with
 | nx σ1 h1=>rw[q] at z;exact (kb _ _ _ _ z).trans (ka _ _ _ _ q)
 | _=>rw[q] at z;cases z
theorem qs {j:Nat}:cn j mSkip:=fun σ h σ' h' z=>by cases z;rfl
theorem if_keep {j:Nat} {t:Mx Bool} {a b:Mst} (ka:cn j a) (kb:cn j b):cn j (mIf t a b):=by
 intro σ h σ' h' z
 unfold mIf mEx at z
 split at z
 ·rename_i v h1 q
  cases v with
  | true=>exact ka _ _ _ _ z
  | false=>exact kb _ _ _ _ z
 ·cases z
 ·cases z
theorem pz {j:Nat} {m:Mx PV}:cn j (fX m):=by
 intro σ h σ' h' z
 unfold fX mEx at z
 split at z
 ·cases z;rfl
 ·cases z
 ·cases z
theorem qP {i k j:Nat} {m:Mx (List PV)} (n1:i≠j) (n2:k≠j):cn j (mPar i k m):=by
 intro σ h σ' h' z
 unfold mPar mEx at z
 split at z
 ·rename_i v h1 q
  dsimp only at z
  split at z
  ·cases z
   rw[List.getElem?_set_ne n2,List.getElem?_set_ne n1]
  ·cases z
 ·cases z
 ·cases z
end
end
end PU
namespace Law
open PySem PySem.Spec PyProof.Rows L2 MM
set_option maxHeartbeats 4000000
noncomputable section
def m_comes_to:Mst:=(mSeq (mSet 2 (mC (.int 0)))
 (mSeq (mSet 3 (mC (.int 1)))
 (mSeq (mFor (mItS (mVar 0)) (gTp (gCn (gNm 4) (gCn (gNm 5) gNl)) 2) (mSeq (mSet 2 (mBin opAdd (mBin opMul (mBin opMul (mVar 2) (mBin opIx (mVar 4) (mC (.int 1)))) (mBin opIx (mVar 5) (mC (.int 1)))) (mBin opMul (mBin opMul (mBin opIx (mVar 4) (mC (.int 0))) (mBin opIx (mVar 5) (mC (.int 0)))) (mVar 3))))
 (mSet 3 (mBin opMul (mBin opMul (mVar 3) (mBin opIx (mVar 4) (mC (.int 1)))) (mBin opIx (mVar 5) (mC (.int 1)))))))
 (mRet (mBin opEq (mBin opMul (mVar 2) (mBin opIx (mVar 1) (mC (.int 1)))) (mBin opMul (mBin opIx (mVar 1) (mC (.int 0))) (mVar 3)))))))
def bt:List PV→MH→Out PV:=mDef 6 2 m_comes_to
def m_part_pairs:Mst:=(mRet (aY 2 [1] (mItS (mVar 0)) (gTp (gCn (gNm 0) (gCn (gNm 1) gNl)) 2) mTrue (mTup (ae (mVar 1) (ae (mBin opIx (mVar 2) (mVar 0)) mNil)))))
def cC:List PV→MH→Out PV:=mDef 2 2 m_part_pairs
def m_mixed_at:Mst:=(mRet (aY 2 [2] (mItZ (ae (mVar 0) (ae (mVar 1) mNil))) (gTp (gCn (gNm 0) (gCn (gNm 1) gNl)) 2) mTrue (mTup (ae (mDg (mBin opIx (mVar 0) (mC (.int 0))) (ae (mVar 2) (ae (mC (.tup [.int 0,.int 1])) mNil))) (ae (mVar 1) mNil)))))
def cO:List PV→MH→Out PV:=mDef 3 3 m_mixed_at
def m_is_answer:Mst:=(mRet (mCB fAll (ae (aY 2 [1] (mItS (mVar 0)) (gTp (gCn (gNm 0) (gCn (gNm 1) gNl)) 2) mTrue (av bt (ae (av cC (ae (mVar 0) (ae (mVar 2) mNil))) (ae (mVar 1) mNil)))) mNil)))
def cv:List PV→MH→Out PV:=mDef 2 2 m_is_answer
def m_is_way:Mst:=(mRet (mCB fAll (ae (aY 2 [1] (mItS (mVar 0)) (gTp (gCn (gNm 0) (gCn (gNm 1) gNl)) 2) mTrue (av bt (ae (av cC (ae (mVar 0) (ae (mVar 2) mNil))) (ae (mC (.tup [.int 0,.int 1])) mNil)))) mNil)))
def eZ:List PV→MH→Out PV:=mDef 2 2 m_is_way
def m_is_mix:Mst:=(mSeq (mSet 3 (aY 2 [] (mItZ (ae (mVar 1) (ae (mVar 2) mNil))) (gTp (gCn (gNm 0) (gCn (gNm 1) gNl)) 2) mTrue (mTup (ae (mBin opIx (mVar 0) (mC (.int 1))) (ae (mVar 1) mNil)))))
 (mRet (dS (av bt (ae (mVar 3) (ae (mC (.tup [.int 1,.int 1])) mNil))) (mCB fAll (ae (aY 1 [1,2] (cb (ae (mVar 0) mNil)) (gNm 0) mTrue (av bt (ae (av cO (ae (mVar 1) (ae (mVar 2) (ae (mVar 0) mNil)))) (ae (mC (.tup [.int 0,.int 1])) mNil)))) mNil)))))
def da:List PV→MH→Out PV:=mDef 4 3 m_is_mix
def m_holds:Mst:=(mSeq (mSet 5 (aY 1 [3,2] (cb (ae (mVar 0) mNil)) (gNm 0) (mAnd (mB (mBin opNe (mVar 0) (mVar 1))) (mB (mBin (opIn true) (mVar 0) (mVar 2)))) (mVar 0)))
 (mSeq (mIf (mNot (mB (mCB fAll (ae (aY 1 [1,4] (mItS (mVar 5)) (gNm 0) mTrue (av bt (ae (av cO (ae (mVar 1) (ae (mVar 2) (ae (mVar 0) mNil)))) (ae (mC (.tup [.int 0,.int 1])) mNil)))) mNil)))) (mRet (mC (.bl false))) mSkip)
 (mRet (av bt (ae (av cO (ae (mVar 1) (ae (mVar 4) (ae (mVar 3) mNil)))) (ae (mC (.tup [.int 1,.int 1])) mNil))))))
def jQ:List PV→MH→Out PV:=mDef 6 5 m_holds
def m_l_pen:Mst:=(mSeq (mSet 2 (mBin opAdd (mBin opMul (mC (.int 7919)) (mVar 1)) (mC (.int 11))))
 (mSeq (mIf (mB (mBin opLt (mVar 1) (mCB fMin (ae (mCB fLen (ae (mVar 0) mNil)) (ae (mC (.int 63)) mNil))))) (mSet 2 (mBin opIx (mVar 0) (mVar 1))) (mIf (mB (mBin opGt (mCB fLen (ae (mVar 0) mNil)) (mC (.int 0)))) (mSet 2 (mBin opAdd (mBin opMod (mBin opIx (mVar 0) (mBin opMod (mVar 1) (mCB fMin (ae (mCB fLen (ae (mVar 0) mNil)) (ae (mC (.int 63)) mNil))))) (mBin opPow (mC (.int 10)) (mC (.int 15)))) (mBin opMul (mC (.int 48271)) (mVar 1)))) mSkip))
 (mSeq (mIf (mB (mBin opGe (mCB fAbs (ae (mVar 2) mNil)) (mBin opPow (mC (.int 10)) (mC (.int 18))))) (mRet (mLst (ae (mC (.int 1)) (ae (mCB fAbs (ae (mVar 2) mNil)) (ae (mC (.int 0)) mNil))))) mSkip)
 (mRet (mLst (ae (mC (.int 0)) (ae (mBin opAdd (mBin opMod (mVar 2) (mC (.int 2147483587))) (mBin opMul (mC (.int 40009)) (mVar 1))) (ae (mC (.int 0)) mNil))))))))
def dh:List PV→MH→Out PV:=mDef 3 2 m_l_pen
def m_l_draw:Mst:=(mSeq (mAsg (mBin opAdd (mBin opIx (mVar 0) (mC (.int 2))) (mC (.int 1))) (gSb (mVar 0) (mC (.int 2))))
 (mSeq (mIf (mB (mBin opEq (mBin opIx (mVar 0) (mC (.int 0))) (mC (.int 1)))) (mSeq (mSet 3 (mBin opMod (mBin opIx (mVar 0) (mC (.int 1))) (mVar 1)))
 (mSeq (mAsg (mBin opFd (mBin opIx (mVar 0) (mC (.int 1))) (mVar 1)) (gSb (mVar 0) (mC (.int 1))))
 (mRet (mVar 3)))) mSkip)
 (mSeq (mSet 2 (mBin opMod (mBin opMul (mBin opAdd (mBin opAdd (mBin opIx (mVar 0) (mC (.int 1))) (mBin opMul (mC (.int 40503)) (mBin opIx (mVar 0) (mC (.int 2))))) (mC (.int 1))) (mC (.int 48271))) (mC (.int 2147483647))))
 (mSeq (mSet 2 (mBin opMod (mBin opMul (mVar 2) (mBin opAdd (mBin opAdd (mBin opMod (mVar 2) (mC (.int 65521))) (mBin opIx (mVar 0) (mC (.int 2)))) (mC (.int 3)))) (mC (.int 2147483629))))
 (mRet (mBin opMod (mBin opFd (mBin opMod (mBin opMul (mVar 2) (mBin opAdd (mBin opMod (mVar 2) (mC (.int 8191))) (mC (.int 7)))) (mC (.int 2147483563))) (mC (.int 64))) (mVar 1)))))))
def aI:List PV→MH→Out PV:=mDef 4 2 m_l_draw
def m_l_lowest:Mst:=(mSeq (mPar 2 3 (ae (mCB fAbs (ae (mVar 0) mNil)) (ae (mCB fAbs (ae (mVar 1) mNil)) mNil)))
 (mSeq (mWh (mB (mBin opGt (mVar 3) (mC (.int 0)))) (mPar 2 3 (ae (mVar 3) (ae (mBin opMod (mVar 2) (mVar 3)) mNil))))
 (mSeq (mIf (mB (mBin opLt (mVar 1) (mC (.int 0)))) (mSet 2 (mUn opNeg (mVar 2))) mSkip)
 (mRet (mTup (ae (mBin opFd (mVar 0) (mVar 2)) (ae (mBin opFd (mVar 1) (mVar 2)) mNil)))))))
def b9:List PV→MH→Out PV:=mDef 4 2 m_l_lowest
def m_l_number:Mst:=(mSeq (mSet 1 (av aI (ae (mVar 0) (ae (mC (.int 8)) mNil))))
 (mSeq (mIf (mB (mBin opEq (mVar 1) (mC (.int 7)))) (mRet (av b9 (ae (mBin opAdd (mBin opSub (av aI (ae (mVar 0) (ae (mBin opSub (mBin opMul (mC (.int 2)) (mBin opPow (mC (.int 10)) (mC (.int 6)))) (mC (.int 1))) mNil))) (mBin opPow (mC (.int 10)) (mC (.int 6)))) (mC (.int 1))) (ae (mBin opAdd (mC (.int 1)) (av aI (ae (mVar 0) (ae (mBin opSub (mBin opPow (mC (.int 10)) (mC (.int 6))) (mC (.int 1))) mNil)))) mNil)))) mSkip)
 (mRet (av b9 (ae (mBin opSub (av aI (ae (mVar 0) (ae (mC (.int 13)) mNil))) (mC (.int 6))) (ae (mBin opAdd (mC (.int 1)) (av aI (ae (mVar 0) (ae (mBin opIx (mLst (ae (mC (.int 1)) (ae (mC (.int 1)) (ae (mC (.int 5)) mNil)))) (mBin opMod (mVar 1) (mC (.int 3)))) mNil)))) mNil))))))
def aX:List PV→MH→Out PV:=mDef 2 1 m_l_number
def m_l_more:Mst:=(mSeq (mSet 1 (av aX (ae (mVar 0) mNil)))
 (mRet (mBin opIx (mLst (ae (mVar 1) (ae (mTup (ae (mBin opAdd (mC (.int 1)) (av aI (ae (mVar 0) (ae (mC (.int 9)) mNil)))) (ae (mC (.int 1)) mNil))) mNil))) (mCB fInt (ae (mBin opEq (mBin opIx (mVar 1) (mC (.int 0))) (mC (.int 0))) mNil)))))
def cY:List PV→MH→Out PV:=mDef 2 1 m_l_more
def m_l_plus:Mst:=(mRet (av b9 (ae (mBin opAdd (mBin opMul (mBin opIx (mVar 0) (mC (.int 0))) (mBin opIx (mVar 1) (mC (.int 1)))) (mBin opMul (mBin opIx (mVar 1) (mC (.int 0))) (mBin opIx (mVar 0) (mC (.int 1))))) (ae (mBin opMul (mBin opIx (mVar 0) (mC (.int 1))) (mBin opIx (mVar 1) (mC (.int 1)))) mNil))))
def bw:List PV→MH→Out PV:=mDef 2 2 m_l_plus
def m_l_times:Mst:=(mRet (av b9 (ae (mBin opMul (mBin opIx (mVar 0) (mC (.int 0))) (mBin opIx (mVar 1) (mC (.int 0)))) (ae (mBin opMul (mBin opIx (mVar 0) (mC (.int 1))) (mBin opIx (mVar 1) (mC (.int 1)))) mNil))))
def df:List PV→MH→Out PV:=mDef 2 2 m_l_times
def m_l_comes:Mst:=(mSeq (mSet 2 (mTup (ae (mC (.int 0)) (ae (mC (.int 1)) mNil))))
 (mSeq (mFor (mItS (mVar 0)) (gTp (gCn (gNm 3) (gCn (gNm 4) gNl)) 2) (mSet 2 (av bw (ae (mVar 2) (ae (av df (ae (mVar 4) (ae (mBin opIx (mVar 1) (mVar 3)) mNil))) mNil)))))
 (mRet (mVar 2))))
def de:List PV→MH→Out PV:=mDef 5 2 m_l_comes
def m_l_parts:Mst:=(mRet (mCB fTuple (ae (aY 1 [0,2] (cb (ae (mVar 1) mNil)) (gNm 0) (mB (mBin opEq (av aI (ae (mVar 1) (ae (mVar 2) mNil))) (mC (.int 0)))) (mTup (ae (mVar 0) (ae (av cY (ae (mVar 1) mNil)) mNil)))) mNil)))
def g6:List PV→MH→Out PV:=mDef 3 3 m_l_parts
def m_l_of_all:Mst:=(mRet (mCB fTuple (ae (aY 1 [1] (cb (ae (mVar 0) mNil)) (gNm 0) (mB (mBin opNe (mBin opIx (mBin opIx (mVar 1) (mVar 0)) (mC (.int 0))) (mC (.int 0)))) (mTup (ae (mVar 0) (ae (mBin opIx (mVar 1) (mVar 0)) mNil)))) mNil)))
def dq:List PV→MH→Out PV:=mDef 2 2 m_l_of_all
def m_l_together:Mst:=(mSeq (mSet 3 (mBin opMul (mLst (ae (mTup (ae (mC (.int 0)) (ae (mC (.int 1)) mNil))) mNil)) (mBin opAdd (mVar 0) (mC (.int 1)))))
 (mSeq (mFor (cb (ae (mCB fLen (ae (mVar 1) mNil)) mNil)) (gNm 4) (mSeq (mFor (mItS (mBin opIx (mBin opIx (mVar 1) (mVar 4)) (mC (.int 0)))) (gTp (gCn (gNm 5) (gCn (gNm 6) gNl)) 2) (mAsg (av bw (ae (mBin opIx (mVar 3) (mVar 5)) (ae (av df (ae (mVar 6) (ae (mBin opIx (mVar 2) (mVar 4)) mNil))) mNil))) (gSb (mVar 3) (mVar 5))))
 (mAsg (av bw (ae (mBin opIx (mVar 3) (mVar 0)) (ae (av df (ae (mBin opIx (mBin opIx (mVar 1) (mVar 4)) (mC (.int 1))) (ae (mBin opIx (mVar 2) (mVar 4)) mNil))) mNil))) (gSb (mVar 3) (mVar 0)))))
 (mRet (mVar 3))))
def bQ:List PV→MH→Out PV:=mDef 7 3 m_l_together
def m_l_bent:Mst:=(mSeq (mSet 2 (mCB fList (ae (mVar 1) mNil)))
 (mSeq (mIf (mAnd (mB (mBin opNe (mVar 2) (mLst mNil))) (mB (mBin opEq (av aI (ae (mVar 0) (ae (mC (.int 2)) mNil))) (mC (.int 0))))) (mSeq (mSet 3 (av aI (ae (mVar 0) (ae (mCB fLen (ae (mVar 2) mNil)) mNil))))
 (mAsg (av bw (ae (mBin opIx (mVar 2) (mVar 3)) (ae (mBin opIx (mLst (ae (mTup (ae (mC (.int 1)) (ae (mC (.int 1)) mNil))) (ae (av cY (ae (mVar 0) mNil)) mNil))) (av aI (ae (mVar 0) (ae (mC (.int 2)) mNil)))) mNil))) (gSb (mVar 2) (mVar 3)))) mSkip)
 (mRet (mVar 2))))
def cZ:List PV→MH→Out PV:=mDef 4 2 m_l_bent
def m_l_answers:Mst:=(mSeq (mSet 3 (aY 1 [0] (cb (ae (mVar 1) mNil)) (gNm 0) mTrue (av aX (ae (mVar 1) mNil))))
 (mSeq (mSet 4 (aY 1 [3] (mItS (mVar 2)) (gNm 0) mTrue (mTup (ae (mVar 0) (ae (av de (ae (mVar 0) (ae (mVar 1) mNil))) mNil)))))
 (mSeq (mIf (mB (mBin (opIs true) (av cv (ae (mCB fList (ae (mVar 4) mNil)) (ae (mCB fList (ae (mVar 3) mNil)) mNil))) (mC (.bl true)))) (mRet (mC (.bl false))) mSkip)
 (mSeq (mIf (mAnd (mB (mBin opNe (mVar 4) (mLst mNil))) (mB (mBin opEq (av aI (ae (mVar 0) (ae (mC (.int 3)) mNil))) (mC (.int 0))))) (mSeq (mSet 10 (av aI (ae (mVar 0) (ae (mCB fLen (ae (mVar 4) mNil)) mNil))))
 (mAsg (mTup (ae (mBin opIx (mBin opIx (mVar 4) (mVar 10)) (mC (.int 0))) (ae (av bw (ae (mBin opIx (mBin opIx (mVar 4) (mVar 10)) (mC (.int 1))) (ae (av cY (ae (mVar 0) mNil)) mNil))) mNil))) (gSb (mVar 4) (mVar 10)))) mSkip)
 (mSeq (mSet 5 (av cZ (ae (mVar 0) (ae (mVar 3) mNil))))
 (mSeq (mSet 6 (mCB fList (ae (mVar 4) mNil)))
 (mSeq (mSet 7 (mCB fList (ae (mVar 5) mNil)))
 (mSeq (mSet 8 (av cv (ae (mVar 6) (ae (mVar 5) mNil))))
 (mSeq (mSet 9 (aY 2 [5] (mItS (mVar 4)) (gTp (gCn (gNm 0) (gCn (gNm 1) gNl)) 2) mTrue (mBin opEq (av de (ae (mVar 0) (ae (mVar 2) mNil))) (mVar 1))))
 (mRet (dS (mUn (fIsi ["bool"]) (mVar 8)) (dS (mBin opEq (mVar 8) (mBin (opIn true) (mC (.bl false)) (mVar 9))) (dS (mBin opEq (mVar 6) (mVar 4)) (mBin opEq (mVar 5) (mVar 7)))))))))))))))
def fF:List PV→MH→Out PV:=mDef 11 3 m_l_answers
def m_l_ways:Mst:=(mSeq (mSet 3 (aY 1 [0] (mItS (mVar 2)) (gNm 0) mTrue (mTup (ae (mVar 0) (ae (av aX (ae (mVar 1) mNil)) mNil)))))
 (mSeq (mSet 4 (mLst (ae (mBin opMul (mLst (ae (mTup (ae (mC (.int 0)) (ae (mC (.int 1)) mNil))) mNil)) (mVar 1)) (ae (aY 1 [0] (cb (ae (mVar 1) mNil)) (gNm 0) mTrue (av aX (ae (mVar 1) mNil))) mNil))))
 (mSeq (mSet 5 (aY 1 [] (mItS (mVar 2)) (gNm 0) (mB (mBin opGt (mCB fLen (ae (mVar 0) mNil)) (mC (.int 1)))) (mVar 0)))
 (mSeq (mIf (mB (mBin opNe (mVar 5) (mLst mNil))) (mSeq (mPar 8 9 (ae (mBin opIx (mBin opIx (mVar 5) (mC (.int 0))) (mC (.int 0))) (ae (mBin opIx (mBin opIx (mVar 5) (mC (.int 0))) (mUn opNeg (mC (.int 1)))) mNil)))
 (mSeq (mSet 6 (mBin opMul (mLst (ae (mTup (ae (mC (.int 0)) (ae (mC (.int 1)) mNil))) mNil)) (mVar 1)))
 (mSeq (mAsg (mBin opIx (mVar 9) (mC (.int 1))) (gSb (mVar 6) (mBin opIx (mVar 8) (mC (.int 0)))))
 (mSeq (mAsg (mTup (ae (mBin opSub (mC (.int 0)) (mBin opIx (mBin opIx (mVar 8) (mC (.int 1))) (mC (.int 0)))) (ae (mBin opIx (mBin opIx (mVar 8) (mC (.int 1))) (mC (.int 1))) mNil))) (gSb (mVar 6) (mBin opIx (mVar 9) (mC (.int 0)))))
 (fX (mMt fR (mVar 4) (ae (mVar 6) mNil))))))) mSkip)
 (mSeq (mFor (mItS (mVar 4)) (gNm 6) (mFor (mItS (mTup (ae (mVar 3) (ae (mSl (mVar 3) mNo (mPt (mC (.int 1)))) (ae (aY 1 [5] (mItS (mVar 3)) (gNm 0) (mB (mBin (opIn false) (mBin opIx (mVar 0) (mC (.int 0))) (mSl (mVar 1) mNo (mPt (mC (.int 1)))))) (mVar 0)) mNil))))) (gNm 7) (mSeq (mSet 10 (mCB fList (ae (mVar 6) mNil)))
 (mSeq (mSet 11 (av eZ (ae (mVar 7) (ae (mVar 10) mNil))))
 (mSeq (mSet 12 (aY 2 [6] (mItS (mVar 7)) (gTp (gCn (gNm 0) (gCn (gNm 1) gNl)) 2) mTrue (mBin opEq (av de (ae (mVar 0) (ae (mVar 2) mNil))) (mTup (ae (mC (.int 0)) (ae (mC (.int 1)) mNil))))))
 (mIf (mOr (mNot (mB (mUn (fIsi ["bool"]) (mVar 11)))) (mOr (mB (mBin opNe (mVar 11) (mBin (opIn true) (mC (.bl false)) (mVar 12)))) (mB (mBin opNe (mVar 10) (mVar 6))))) (mRet (mC (.bl false))) mSkip))))))
 (mRet (mC (.bl true))))))))
def iT:List PV→MH→Out PV:=mDef 13 3 m_l_ways
def m_l_mixes:Mst:=(mSeq (mSet 3 (aY 1 [0] (mItS (mVar 2)) (gNm 0) mTrue (mTup (ae (mVar 0) (ae (av aX (ae (mVar 1) mNil)) mNil)))))
 (mSeq (mSet 4 (aY 1 [0] (mItS (mVar 2)) (gNm 0) mTrue (av aX (ae (mVar 1) mNil))))
 (mSeq (mSet 5 (av bQ (ae (mVar 1) (ae (mVar 3) (ae (mVar 4) mNil)))))
 (mSeq (mSet 6 (aY 1 [] (mItS (mVar 5)) (gNm 0) mTrue (mTup (ae (mBin opSub (mC (.int 0)) (mBin opIx (mVar 0) (mC (.int 0)))) (ae (mBin opIx (mVar 0) (mC (.int 1))) mNil)))))
 (mSeq (mSet 7 (mBin opAdd (mVar 3) (mLst (ae (mTup (ae (av dq (ae (mVar 1) (ae (mSl (mVar 6) mNo (mPt (mVar 1))) mNil))) (ae (av bw (ae (mTup (ae (mC (.int 1)) (ae (mC (.int 1)) mNil))) (ae (mBin opIx (mVar 6) (mVar 1)) mNil))) mNil))) mNil))))
 (mSeq (mIf (mB (mBin (opIs true) (av da (ae (mVar 1) (ae (mCB fList (ae (mVar 7) mNil)) (ae (mBin opAdd (mVar 4) (mLst (ae (mTup (ae (mC (.int 1)) (ae (mC (.int 1)) mNil))) mNil))) mNil)))) (mC (.bl true)))) (mRet (mC (.bl false))) mSkip)
 (mSeq (mIf (mB (mBin opEq (av aI (ae (mVar 0) (ae (mC (.int 2)) mNil))) (mC (.int 0)))) (mAsg (mTup (ae (mBin opIx (mBin opIx (mVar 7) (mUn opNeg (mC (.int 1)))) (mC (.int 0))) (ae (mBin opIx (mLst (ae (mTup (ae (mC (.int 0)) (ae (mC (.int 1)) mNil))) (ae (mBin opIx (mVar 6) (mVar 1)) (ae (av aX (ae (mVar 0) mNil)) mNil)))) (av aI (ae (mVar 0) (ae (mC (.int 3)) mNil)))) mNil))) (gSb (mVar 7) (mUn opNeg (mC (.int 1))))) mSkip)
 (mSeq (mSet 8 (av cZ (ae (mVar 0) (ae (mBin opAdd (mVar 4) (mLst (ae (mTup (ae (mC (.int 1)) (ae (mC (.int 1)) mNil))) mNil))) mNil))))
 (mSeq (mSet 9 (mCB fList (ae (mVar 8) mNil)))
 (mSeq (mSet 10 (av da (ae (mVar 1) (ae (mCB fList (ae (mVar 7) mNil)) (ae (mVar 9) mNil)))))
 (mSeq (mSet 11 (mBin opEq (av bQ (ae (mVar 1) (ae (mVar 7) (ae (mVar 8) mNil)))) (mBin opAdd (mBin opMul (mLst (ae (mTup (ae (mC (.int 0)) (ae (mC (.int 1)) mNil))) mNil)) (mVar 1)) (mLst (ae (mTup (ae (mC (.int 1)) (ae (mC (.int 1)) mNil))) mNil)))))
 (mRet (dS (mBin opEq (mVar 9) (mVar 8)) (dS (mUn (fIsi ["bool"]) (mVar 10)) (mBin opEq (mVar 10) (mVar 11))))))))))))))))
def g7:List PV→MH→Out PV:=mDef 12 3 m_l_mixes
def m_l_held:Mst:=(mSeq (mSet 3 (aY 1 [0] (mItS (mVar 2)) (gNm 0) mTrue (mTup (ae (mVar 0) (ae (av aX (ae (mVar 1) mNil)) mNil)))))
 (mSeq (mSet 4 (aY 1 [0] (mItS (mVar 2)) (gNm 0) mTrue (av aX (ae (mVar 1) mNil))))
 (mSeq (mSet 5 (av aI (ae (mVar 0) (ae (mVar 1) mNil))))
 (mSeq (mSet 6 (aY 1 [5,0] (cb (ae (mVar 1) mNil)) (gNm 0) (mAnd (mB (mBin opNe (mVar 0) (mVar 1))) (mB (mBin opEq (av aI (ae (mVar 2) (ae (mC (.int 2)) mNil))) (mC (.int 0))))) (mVar 0)))
 (mSeq (mSet 7 (aY 2 [] (mItS (mSl (av bQ (ae (mVar 1) (ae (mVar 3) (ae (mVar 4) mNil)))) mNo (mPt (mVar 1)))) (gTp (gCn (gNm 0) (gCn (gNm 1) gNl)) 2) mTrue (mTup (ae (mBin opSub (mC (.int 0)) (mVar 0)) (ae (mVar 1) mNil)))))
 (mSeq (mAsg (av bw (ae (mBin opIx (mVar 7) (mVar 5)) (ae (mTup (ae (mC (.int 1)) (ae (mC (.int 1)) mNil))) mNil))) (gSb (mVar 7) (mVar 5)))
 (mSeq (mSet 8 (mBin opAdd (mVar 3) (mLst (ae (mTup (ae (av dq (ae (mVar 1) (ae (mVar 7) mNil))) (ae (av aX (ae (mVar 0) mNil)) mNil))) mNil))))
 (mSeq (mSet 9 (av cZ (ae (mVar 0) (ae (mBin opAdd (mVar 4) (mLst (ae (mTup (ae (mC (.int 1)) (ae (mC (.int 1)) mNil))) mNil))) mNil))))
 (mSeq (mFor (mItS (mLst (ae (mTup (ae (mVar 8) (ae (mBin opAdd (mVar 4) (mLst (ae (mTup (ae (mC (.int 1)) (ae (mC (.int 1)) mNil))) mNil))) (ae (mLst mNil) mNil)))) (ae (mTup (ae (mVar 8) (ae (mVar 9) (ae (mLst mNil) mNil)))) (ae (mTup (ae (mVar 8) (ae (mVar 9) (ae (mVar 6) mNil)))) (ae (mTup (ae (mVar 3) (ae (mVar 4) (ae (mVar 6) mNil)))) mNil)))))) (gTp (gCn (gNm 10) (gCn (gNm 11) (gCn (gNm 12) gNl))) 3) (mSeq (mSet 13 (av bQ (ae (mVar 1) (ae (mVar 10) (ae (mVar 11) mNil)))))
 (mSeq (mSet 14 (aY 1 [13,5,12] (cb (ae (mVar 1) mNil)) (gNm 0) (mB (mBin (opIn true) (mVar 0) (mVar 3))) (mBin opEq (mBin opIx (mVar 1) (mVar 0)) (mTup (ae (mCB fInt (ae (mBin opEq (mVar 0) (mVar 2)) mNil)) (ae (mC (.int 1)) mNil))))))
 (mSeq (mSet 15 (mLst (ae (mCB fList (ae (mVar 12) mNil)) (ae (mCB fList (ae (mVar 11) mNil)) mNil))))
 (mSeq (mSet 16 (av jQ (ae (mVar 1) (ae (mCB fList (ae (mVar 10) mNil)) (ae (mBin opIx (mVar 15) (mC (.int 0))) (ae (mVar 5) (ae (mBin opIx (mVar 15) (mC (.int 1))) mNil)))))))
 (mIf (mOr (mNot (mB (mUn (fIsi ["bool"]) (mVar 16)))) (mOr (mB (mBin opNe (mVar 16) (mBin (opIn true) (mC (.bl false)) (mVar 14)))) (mB (mBin opNe (mVar 15) (mLst (ae (mVar 12) (ae (mVar 11) mNil))))))) (mRet (mC (.bl false))) mSkip))))))
 (mRet (mC (.bl true))))))))))))
def i4:List PV→MH→Out PV:=mDef 17 3 m_l_held
def m_law:Mst:=(mSeq (mFor (cb (ae (mC (.int 3)) mNil)) (gNm 1) (mSeq (mSet 2 (av dh (ae (mVar 0) (ae (mVar 1) mNil))))
 (mSeq (mSet 3 (av aI (ae (mVar 2) (ae (mC (.int 8)) mNil))))
 (mSeq (mSet 4 (aY 1 [2,3] (cb (ae (av aI (ae (mVar 2) (ae (mC (.int 9)) mNil))) mNil)) (gNm 0) mTrue (av g6 (ae (mVar 1) (ae (mVar 2) (ae (mC (.int 3)) mNil))))))
 (mSeq (mIf (mOr (mNot (mB (av fF (ae (mVar 2) (ae (mVar 3) (ae (mVar 4) mNil)))))) (mOr (mNot (mB (av iT (ae (mVar 2) (ae (mVar 3) (ae (mVar 4) mNil)))))) (mNot (mB (av g7 (ae (mVar 2) (ae (mVar 3) (ae (mVar 4) mNil)))))))) (mRet (mC (.bl false))) mSkip)
 (mIf (mAnd (mB (mBin opGt (mVar 3) (mC (.int 0)))) (mNot (mB (av i4 (ae (mVar 2) (ae (mVar 3) (ae (mVar 4) mNil))))))) (mRet (mC (.bl false))) mSkip))))))
 (mSeq (mIf (mOr (mB (mBin (opIs true) (av cv (ae (mLst mNil) (ae (mLst mNil) mNil))) (mC (.bl true)))) (mB (mBin (opIs true) (av eZ (ae (mLst (ae (mTup (ae (mTup mNil) (ae (mTup (ae (mC (.int 1)) (ae (mC (.int 2)) mNil))) mNil))) mNil)) (ae (mLst mNil) mNil))) (mC (.bl true))))) (mRet (mC (.bl false))) mSkip)
 (mRet (dS (mBin (opIs false) (av da (ae (mC (.int 0)) (ae (mLst (ae (mTup (ae (mTup mNil) (ae (mTup (ae (mC (.int 2)) (ae (mC (.int 1)) mNil))) mNil))) mNil)) (ae (mLst (ae (mTup (ae (mC (.int 1)) (ae (mC (.int 2)) mNil))) mNil)) mNil)))) (mC (.bl true))) (mBin (opIs false) (av da (ae (mC (.int 0)) (ae (mLst mNil) (ae (mLst mNil) mNil)))) (mC (.bl false)))))))
def f_law:List PV→MH→Out PV:=mDef 5 1 m_law
end
end Law
namespace Law
open PySem MM PU
open L2 (ixN atI CPow)
set_option maxHeartbeats 4000000
noncomputable section
def gE:Xd []:=(xSeq (xSet 2 (xC (.int 0)))
 (xSeq (xSet 3 (xC (.int 1)))
 (xSeq (xFor (xItS (xVar 0)) (xGp (xGc (xNm 4) (xGc (xNm 5) xGl)) 2) (xSeq (xSet 2 (xBin oAdd (xBin oMul (xBin oMul (xVar 2) (xBin oIx (xVar 4) (xC (.int 1)))) (xBin oIx (xVar 5) (xC (.int 1)))) (xBin oMul (xBin oMul (xBin oIx (xVar 4) (xC (.int 0))) (xBin oIx (xVar 5) (xC (.int 0)))) (xVar 3))))
 (xSet 3 (xBin oMul (xBin oMul (xVar 3) (xBin oIx (xVar 4) (xC (.int 1)))) (xBin oIx (xVar 5) (xC (.int 1)))))))
 (xRet (xBin oEq (xBin oMul (xVar 2) (xBin oIx (xVar 1) (xC (.int 1)))) (xBin oMul (xBin oIx (xVar 1) (xC (.int 0))) (xVar 3)))))))
def bf:Fn:=xDef 6 2 gE
theorem mG {ds:List D} {s:Pen} (h:ds.length=2):bf.p ds s=(gE.p (dSt 6 ds) s).fin:=bo h
def fj:Xd []:=(xRet (aP 2 [1] (xItS (xVar 0)) (ws':=[]) (xGp (xGc (xNm 0) (xGc (xNm 1) xGl)) 2) xTrue (xTup (ab (xVar 1) (ab (xBin oIx (xVar 2) (xVar 0)) xNil)))))
def dn:Fn:=xDef 2 2 fj
theorem kA {ds:List D} {s:Pen} (h:ds.length=2):dn.p ds s=(fj.p (dSt 2 ds) s).fin:=bo h
def gk:Xd []:=(xRet (aP 2 [2] (xItA iZ (ab (xVar 0) (ab (xVar 1) xNil))) (ws':=[]) (xGp (xGc (xNm 0) (xGc (xNm 1) xGl)) 2) xTrue (xTup (ab (xDg (xBin oIx (xVar 0) (xC (.int 0))) (ab (xVar 2) (ab (xCT 0 1) xNil))) (ab (xVar 1) xNil)))))
def cj:Fn:=xDef 3 3 gk
theorem mE {ds:List D} {s:Pen} (h:ds.length=3):cj.p ds s=(gk.p (dSt 3 ds) s).fin:=bo h
def fG:Xd []:=(xRet (xCb cAll (ab (aP 2 [1] (xItS (xVar 0)) (ws':=[]) (xGp (xGc (xNm 0) (xGc (xNm 1) xGl)) 2) xTrue (ai bf (ab (ai dn (ab (xVar 0) (ab (xVar 2) xNil))) (ab (xVar 1) xNil)))) xNil)))
def cA:Fn:=xDef 2 2 fG
theorem lW {ds:List D} {s:Pen} (h:ds.length=2):cA.p ds s=(fG.p (dSt 2 ds) s).fin:=bo h
def i5:Xd []:=(xRet (xCb cAll (ab (aP 2 [1] (xItS (xVar 0)) (ws':=[]) (xGp (xGc (xNm 0) (xGc (xNm 1) xGl)) 2) xTrue (ai bf (ab (ai dn (ab (xVar 0) (ab (xVar 2) xNil))) (ab (xCT 0 1) xNil)))) xNil)))
def dL:Fn:=xDef 2 2 i5
theorem qo {ds:List D} {s:Pen} (h:ds.length=2):dL.p ds s=(i5.p (dSt 2 ds) s).fin:=bo h
def iW:Xd []:=(xSeq (xSet 3 (aP 2 [] (xItA iZ (ab (xVar 1) (ab (xVar 2) xNil))) (ws':=[]) (xGp (xGc (xNm 0) (xGc (xNm 1) xGl)) 2) xTrue (xTup (ab (xBin oIx (xVar 0) (xC (.int 1))) (ab (xVar 1) xNil)))))
 (xRet (fv (ai bf (ab (xVar 3) (ab (xCT 1 1) xNil))) (xCb cAll (ab (aP 1 [1,2] (xItA iR1 (ab (xVar 0) xNil)) (ws':=[]) (xNm 0) xTrue (ai bf (ab (ai cj (ab (xVar 1) (ab (xVar 2) (ab (xVar 0) xNil)))) (ab (xCT 0 1) xNil)))) xNil)))))
def cE:Fn:=xDef 4 3 iW
theorem pZ {ds:List D} {s:Pen} (h:ds.length=3):cE.p ds s=(iW.p (dSt 4 ds) s).fin:=bo h
def jT:Xd []:=(xSeq (xSet 5 (aP 1 [3,2] (xItA iR1 (ab (xVar 0) xNil)) (ws':=[]) (xNm 0) (xAnd (xB (xBin oNe (xVar 0) (xVar 1))) (xB (xBin (oIn true) (xVar 0) (xVar 2)))) (xVar 0)))
 (xSeq (xIf (xNot (xB (xCb cAll (ab (aP 1 [1,4] (xItS (xVar 5)) (ws':=[]) (xNm 0) xTrue (ai bf (ab (ai cj (ab (xVar 1) (ab (xVar 2) (ab (xVar 0) xNil)))) (ab (xCT 0 1) xNil)))) xNil)))) (xRet (xC (.bl false))) xSkip)
 (xRet (ai bf (ab (ai cj (ab (xVar 1) (ab (xVar 4) (ab (xVar 3) xNil)))) (ab (xCT 1 1) xNil))))))
def ie:Fn:=xDef 6 5 jT
theorem rB {ds:List D} {s:Pen} (h:ds.length=5):ie.p ds s=(jT.p (dSt 6 ds) s).fin:=bo h
theorem jY {h:MH} {p:Nat} {o:MO} (hp:p<h.length):(h.set p o)[p]?=some o:=List.getElem?_set_self hp
theorem ix2:ixN 3 2=some 2:=cP (n:=3) (m:=2) (by decide)
theorem ix1:ixN 3 1=some 1:=cP (n:=3) (m:=1) (by decide)
theorem fK (s:Pen) (size:Int) (hs:0<size) (hl:size.natAbs.log2<9000):∃x:Int × Int,(0≤x.1∧x.1<size)∧∀(h:MH) (p:Nat),bD h p s→aI [.loc p,.int size] h=.ok (.int x.1) (h.set p (.lst [.int s.1,.int x.2,.int (s.2.2+1)])):=by
 obtain ⟨m,c,t⟩:=s
 have hs0:size≠0:=by omega
 have st:∀n:Int,0≤n.fmod size∧n.fmod size<size:=fun n=>by
  rw[Int.fmod_eq_emod_of_nonneg n (by omega)]
  exact ⟨Int.emod_nonneg n hs0,Int.emod_lt_of_pos n hs⟩
 by_cases hm:m=1
 ·subst hm
  refine ⟨(c.fmod size,c.fdiv size),st c,fun h p e=>?_⟩
  have e:h[p]?=some (.lst [.int 1,.int c,.int t]):=e
  have hp:p<h.length:=(List.getElem?_eq_some_iff.mp e).1
  have e2:(h.set p (.lst [.int 1,.int c,.int (t+1)]))[p]?=some (.lst [.int 1,.int c,.int (t+1)]):=jY hp
  unfold aI
  refine (im (by rfl)).trans ?_
  unfold m_l_draw
  simp[bL,List.replicate,gh e,i6 e,ix2,gh e2,dG hs0,nF hs0 hl,i6 e2,ix1]
 ·have big:∀n k:Int,0<k→0≤n.fmod k∧n.fmod k<k:=fun n k hk=>by
   rw[Int.fmod_eq_emod_of_nonneg n (by omega)]
   exact ⟨Int.emod_nonneg n (by omega),Int.emod_lt_of_pos n hk⟩
  generalize ea:((c+40503 * (t+1)+1) * 48271).fmod 2147483647=A
  have b1:=big ((c+40503 * (t+1)+1) * 48271) 2147483647 (by decide)
  rw[ea] at b1
  generalize eb:(A * (A.fmod 65521+(t+1)+3)).fmod 2147483629=C
  have b2:=big (A * (A.fmod 65521+(t+1)+3)) 2147483629 (by decide)
  rw[eb] at b2
  refine ⟨((((C * (C.fmod 8191+7)).fmod 2147483563).fdiv 64).fmod size,c),st _,fun h p e=>?_⟩
  have e:h[p]?=some (.lst [.int m,.int c,.int t]):=e
  have hp:p<h.length:=(List.getElem?_eq_some_iff.mp e).1
  have e2:(h.set p (.lst [.int m,.int c,.int (t+1)]))[p]?=some (.lst [.int m,.int c,.int (t+1)]):=jY hp
  have c1:-(2 ^ 64)<A∧A<2 ^ 64:=by omega
  have c2:-(2 ^ 64)<C∧C<2 ^ 64:=by omega
  have k1:∀{i:Int} {h:MH},opMul (.int 40503) (.int i) h=.ok (.int (40503 * i)) h:=eN (by decide)
  have k2:∀{i:Int} {h:MH},opMul (.int i) (.int 48271) h=.ok (.int (i * 48271)) h:=opMul_r (by decide)
  unfold aI
  refine (im (by rfl)).trans ?_
  unfold m_l_draw
  simp[bL,List.replicate,gh e,i6 e,ix2,gh e2,hm,k1,k2,dG,ea,eN c1,eb,eN c2,nF (show (64:Int)≠0 by decide) (show (64:Int).natAbs.log2<9000 by decide +kernel),dG hs0]
open Classical in
noncomputable def iC (s:Pen) (size:Int):Int × Int:=if z:0<size∧size.natAbs.log2<9000 then (fK s size z.1 z.2).choose else (0,0)
def jy (ds:List D):Option Int:=match ds with
 | [.pen,.int i]=>some i
 | _=>none
theorem nT {ds:List D} {i:Int} (e:jy ds=some i):ds=[.pen,.int i]:=by
 unfold jy at e
 split at e
 ·cases e;rfl
 ·cases e
open Classical in
noncomputable def aK:Fn where
 m:=aI
 p:=fun ds s=>match jy ds with
  | some size=>if 0<size∧size.natAbs.log2<9000 then .ok (.int (iC s size).1) (s.1,(iC s size).2,s.2.2+1) else .bad
  | none=>.bad
 fr:=true
 ok {q h O vs ds s} bd hq pn r:=by
  cases e:jy ds with
  | none=>trivial
  | some size =>
   have:=nT e
   subst this
   dsimp only
   by_cases z:0<size∧size.natAbs.log2<9000
   ·rw[if_pos z]
    obtain ⟨x,t,rfl,hx,y,t',rfl,hy,ht⟩:=r
    rw[show x=PV.loc q from hx,show y=PV.int size from hy,show t'=[] from ht]
    have k:=(fK s size z.1 z.2).choose_spec.2 h q pn
    have ed:iC s size=(fK s size z.1 z.2).choose:=by unfold iC;rw[dif_pos z]
    rw[←ed] at k
    refine ⟨_,_,k,⟨by simp,fun n hn hp=>List.getElem?_set_ne (Ne.symm hp)⟩,jY (aW pn),rfl,fun _ ds e=>by cases e⟩
   ·rw[if_neg z];trivial
open Classical in
theorem bz {s:Pen} {size:Int} (hs:0<size) (hl:size≤2000000000):∃d s',0≤d∧d<size∧aK.p [.pen,.int size] s=.ok (.int d) s':=by
 have hlog:size.natAbs.log2<9000:=by
  have h1:size.natAbs≤2000000000:=by omega
  have h2:size.natAbs.log2<31:=(Nat.log2_lt (by omega)).mpr (by omega)
  omega
 have z:0<size∧size.natAbs.log2<9000:=⟨hs,hlog⟩
 have ed:iC s size=(fK s size z.1 z.2).choose:=by unfold iC;rw[dif_pos z]
 have k:=(fK s size z.1 z.2).choose_spec.1
 rw[←ed] at k
 exact ⟨_,_,k.1,k.2,by show (if 0<size∧size.natAbs.log2<9000 then _ else _)=_;rw[if_pos z]⟩
def gq:Xd []:=(xSeq (xPar 2 3 (ab (xCb cAbs (ab (xVar 0) xNil)) (ab (xCb cAbs (ab (xVar 1) xNil)) xNil)))
 (xSeq (xWh 4000 (xB (xBin oGt (xVar 3) (xC (.int 0)))) (xPar 2 3 (ab (xVar 3) (ab (xBin oMod (xVar 2) (xVar 3)) xNil))) o7)
 (xSeq (xIf (xB (xBin oLt (xVar 1) (xC (.int 0)))) (xSet 2 (xUn oNeg (xVar 2))) xSkip)
 (xRet (xTup (ab (xBin oFd (xVar 0) (xVar 2)) (ab (xBin oFd (xVar 1) (xVar 2)) xNil)))))))
def ck:Fn:=xDef 4 2 gq
theorem mj {ds:List D} {s:Pen} (h:ds.length=2):ck.p ds s=(gq.p (dSt 4 ds) s).fin:=bo h
def gs:Xd []:=(xSeq (xSet 1 (ai aK (ab (xVar 0) (ab (xC (.int 8)) xNil))))
 (xSeq (xIf (xB (xBin oEq (xVar 1) (xC (.int 7)))) (xRet (ai ck (ab (xBin oAdd (xBin oSub (ai aK (ab (xVar 0) (ab (xBin oSub (xBin oMul (xC (.int 2)) (xBin oPow (xC (.int 10)) (xC (.int 6)))) (xC (.int 1))) xNil))) (xBin oPow (xC (.int 10)) (xC (.int 6)))) (xC (.int 1))) (ab (xBin oAdd (xC (.int 1)) (ai aK (ab (xVar 0) (ab (xBin oSub (xBin oPow (xC (.int 10)) (xC (.int 6))) (xC (.int 1))) xNil)))) xNil)))) xSkip)
 (xRet (ai ck (ab (xBin oSub (ai aK (ab (xVar 0) (ab (xC (.int 13)) xNil))) (xC (.int 6))) (ab (xBin oAdd (xC (.int 1)) (ai aK (ab (xVar 0) (ab (xBin oIx (xLst (ab (xC (.int 1)) (ab (xC (.int 1)) (ab (xC (.int 5)) xNil)))) (xBin oMod (xVar 1) (xC (.int 3)))) xNil)))) xNil))))))
def aH:Fn:=xDef 2 1 gs
theorem mr {ds:List D} {s:Pen} (h:ds.length=1):aH.p ds s=(gs.p (dSt 2 ds) s).fin:=bo h
def i3:Xd []:=(xSeq (xSet 1 (ai aH (ab (xVar 0) xNil)))
 (xRet (xBin oIx (xLst (ab (xVar 1) (ab (xTup (ab (xBin oAdd (xC (.int 1)) (ai aK (ab (xVar 0) (ab (xC (.int 9)) xNil)))) (ab (xC (.int 1)) xNil))) xNil))) (xCb cInt (ab (xBin oEq (xBin oIx (xVar 1) (xC (.int 0))) (xC (.int 0))) xNil)))))
def db:Fn:=xDef 2 1 i3
theorem p7 {ds:List D} {s:Pen} (h:ds.length=1):db.p ds s=(i3.p (dSt 2 ds) s).fin:=bo h
def iS:Xd []:=(xRet (ai ck (ab (xBin oAdd (xBin oMul (xBin oIx (xVar 0) (xC (.int 0))) (xBin oIx (xVar 1) (xC (.int 1)))) (xBin oMul (xBin oIx (xVar 1) (xC (.int 0))) (xBin oIx (xVar 0) (xC (.int 1))))) (ab (xBin oMul (xBin oIx (xVar 0) (xC (.int 1))) (xBin oIx (xVar 1) (xC (.int 1)))) xNil))))
def bn:Fn:=xDef 2 2 iS
theorem qe {ds:List D} {s:Pen} (h:ds.length=2):bn.p ds s=(iS.p (dSt 2 ds) s).fin:=bo h
def gN:Xd []:=(xRet (ai ck (ab (xBin oMul (xBin oIx (xVar 0) (xC (.int 0))) (xBin oIx (xVar 1) (xC (.int 0)))) (ab (xBin oMul (xBin oIx (xVar 0) (xC (.int 1))) (xBin oIx (xVar 1) (xC (.int 1)))) xNil))))
def b8:Fn:=xDef 2 2 gN
theorem oH {ds:List D} {s:Pen} (h:ds.length=2):b8.p ds s=(gN.p (dSt 2 ds) s).fin:=bo h
def gT:Xd []:=(xSeq (xSet 2 (xTup (ab (xC (.int 0)) (ab (xC (.int 1)) xNil))))
 (xSeq (xFor (xItS (xVar 0)) (xGp (xGc (xNm 3) (xGc (xNm 4) xGl)) 2) (xSet 2 (ai bn (ab (xVar 2) (ab (ai b8 (ab (xVar 4) (ab (xBin oIx (xVar 1) (xVar 3)) xNil))) xNil)))))
 (xRet (xVar 2))))
def bZ:Fn:=xDef 5 2 gT
theorem ot {ds:List D} {s:Pen} (h:ds.length=2):bZ.p ds s=(gT.p (dSt 5 ds) s).fin:=bo h
def g8:Xd []:=(xRet (xCb jB (ab (aP 1 [0,2] (xItA iR1 (ab (xVar 1) xNil)) (ws':=[]) (xNm 0) (xB (xBin oEq (ai aK (ab (xVar 1) (ab (xVar 2) xNil))) (xC (.int 0)))) (xTup (ab (xVar 0) (ab (ai db (ab (xVar 1) xNil)) xNil)))) xNil)))
def d5:Fn:=xDef 3 3 g8
theorem oJ {ds:List D} {s:Pen} (h:ds.length=3):d5.p ds s=(g8.p (dSt 3 ds) s).fin:=bo h
def gD:Xd []:=(xRet (xCb jB (ab (aP 1 [1] (xItA iR1 (ab (xVar 0) xNil)) (ws':=[]) (xNm 0) (xB (xBin oNe (xBin oIx (xBin oIx (xVar 1) (xVar 0)) (xC (.int 0))) (xC (.int 0)))) (xTup (ab (xVar 0) (ab (xBin oIx (xVar 1) (xVar 0)) xNil)))) xNil)))
def eA:Fn:=xDef 2 2 gD
theorem mD {ds:List D} {s:Pen} (h:ds.length=2):eA.p ds s=(gD.p (dSt 2 ds) s).fin:=bo h
def eO:Xd [3]:=(xSeq (hR 3 (xBin oMul (xLst (ab (xTup (ab (xC (.int 0)) (ab (xC (.int 1)) xNil))) xNil)) (xBin oAdd (xVar 0) (xC (.int 1)))))
 (xSeq (xFor (xItA iR1 (ab (xCb cLen (ab (xVar 1) xNil)) xNil)) (xNm 4) (xSeq (xFor (xItS (xBin oIx (xBin oIx (xVar 1) (xVar 4)) (xC (.int 0)))) (xGp (xGc (xNm 5) (xGc (xNm 6) xGl)) 2) (xSub 3 (ai bn (ab (xBin oIx (xVar 3) (xVar 5)) (ab (ai b8 (ab (xVar 6) (ab (xBin oIx (xVar 2) (xVar 4)) xNil))) xNil))) (xVar 5)))
 (xSub 3 (ai bn (ab (xBin oIx (xVar 3) (xVar 0)) (ab (ai b8 (ab (xBin oIx (xBin oIx (xVar 1) (xVar 4)) (xC (.int 1))) (ab (xBin oIx (xVar 2) (xVar 4)) xNil))) xNil))) (xVar 0))))
 (oo 3)))
def bE:Fn:=xDef 7 3 eO
theorem kz {ds:List D} {s:Pen} (h:ds.length=3):bE.p ds s=(eO.p (dSt 7 ds) s).fin:=bo h
def iK:Xd [2]:=(xSeq (hR 2 (xCb bh (ab (xVar 1) xNil)))
 (xSeq (xIf (xAnd (xB (xBin oNe (xVar 2) (xLst xNil))) (xB (xBin oEq (ai aK (ab (xVar 0) (ab (xC (.int 2)) xNil))) (xC (.int 0))))) (xSeq (xSet 3 (ai aK (ab (xVar 0) (ab (xCb cLen (ab (xVar 2) xNil)) xNil))))
 (xSub 2 (ai bn (ab (xBin oIx (xVar 2) (xVar 3)) (ab (xBin oIx (xLst (ab (xTup (ab (xC (.int 1)) (ab (xC (.int 1)) xNil))) (ab (ai db (ab (xVar 0) xNil)) xNil))) (ai aK (ab (xVar 0) (ab (xC (.int 2)) xNil)))) xNil))) (xVar 3))) xSkip)
 (oo 2)))
def fg:Fn:=xDef 4 2 iK
theorem pK {ds:List D} {s:Pen} (h:ds.length=2):fg.p ds s=(iK.p (dSt 4 ds) s).fin:=bo h
def fE:Xd [4]:=(xSeq (xSet 3 (aP 1 [0] (xItA iR1 (ab (xVar 1) xNil)) (ws':=[]) (xNm 0) xTrue (ai aH (ab (xVar 1) xNil))))
 (xSeq (hR 4 (aP 1 [3] (xItS (xVar 2)) (ws':=[]) (xNm 0) xTrue (xTup (ab (xVar 0) (ab (ai bZ (ab (xVar 0) (ab (xVar 1) xNil))) xNil)))))
 (xSeq (xIf (xB (xBin (oIs true) (ai cA (ab (xCb bh (ab (xVar 4) xNil)) (ab (xCb bh (ab (xVar 3) xNil)) xNil))) (xC (.bl true)))) (xRet (xC (.bl false))) xSkip)
 (xSeq (xIf (xAnd (xB (xBin oNe (xVar 4) (xLst xNil))) (xB (xBin oEq (ai aK (ab (xVar 0) (ab (xC (.int 3)) xNil))) (xC (.int 0))))) (xSeq (xSet 10 (ai aK (ab (xVar 0) (ab (xCb cLen (ab (xVar 4) xNil)) xNil))))
 (xSub 4 (xTup (ab (xBin oIx (xBin oIx (xVar 4) (xVar 10)) (xC (.int 0))) (ab (ai bn (ab (xBin oIx (xBin oIx (xVar 4) (xVar 10)) (xC (.int 1))) (ab (ai db (ab (xVar 0) xNil)) xNil))) xNil))) (xVar 10))) xSkip)
 (xSeq (xSet 5 (ai fg (ab (xVar 0) (ab (xVar 3) xNil))))
 (xSeq (xSet 6 (xCb bh (ab (xVar 4) xNil)))
 (xSeq (xSet 7 (xCb bh (ab (xVar 5) xNil)))
 (xSeq (xSet 8 (ai cA (ab (xVar 6) (ab (xVar 5) xNil))))
 (xSeq (xSet 9 (aP 2 [5] (xItS (xVar 4)) (ws':=[]) (xGp (xGc (xNm 0) (xGc (xNm 1) xGl)) 2) xTrue (xBin oEq (ai bZ (ab (xVar 0) (ab (xVar 2) xNil))) (xVar 1))))
 (xRet (fv (xUn (oIsi ["bool"]) (xVar 8)) (fv (xBin oEq (xVar 8) (xBin (oIn true) (xC (.bl false)) (xVar 9))) (fv (xBin oEq (xVar 6) (xVar 4)) (xBin oEq (xVar 5) (xVar 7)))))))))))))))
def fI:Fn:=xDef 11 3 fE
theorem lB {ds:List D} {s:Pen} (h:ds.length=3):fI.p ds s=(fE.p (dSt 11 ds) s).fin:=bo h
def iR:Xd []:=(xSeq (xSet 3 (aP 1 [0] (xItS (xVar 2)) (ws':=[]) (xNm 0) xTrue (xTup (ab (xVar 0) (ab (ai aH (ab (xVar 1) xNil)) xNil)))))
 (jz 4 (xLst (ab (xBin oMul (xLst (ab (xTup (ab (xC (.int 0)) (ab (xC (.int 1)) xNil))) xNil)) (xVar 1)) (ab (aP 1 [0] (xItA iR1 (ab (xVar 1) xNil)) (ws':=[]) (xNm 0) xTrue (ai aH (ab (xVar 1) xNil))) xNil))) (xSet 5 (aP 1 [] (xItS (xVar 2)) (ws':=[]) (xNm 0) (xB (xBin oGt (xCb cLen (ab (xVar 0) xNil)) (xC (.int 1)))) (xVar 0))) (xIf (xB (xBin oNe (xVar 5) (xLst xNil))) (xSeq (xPar 8 9 (ab (xBin oIx (xBin oIx (xVar 5) (xC (.int 0))) (xC (.int 0))) (ab (xBin oIx (xBin oIx (xVar 5) (xC (.int 0))) (xUn oNeg (xC (.int 1)))) xNil)))
 (jz 6 (xBin oMul (xLst (ab (xTup (ab (xC (.int 0)) (ab (xC (.int 1)) xNil))) xNil)) (xVar 1)) (xSub 6 (xBin oIx (xVar 9) (xC (.int 1))) (xBin oIx (xVar 8) (xC (.int 0)))) (xSub 6 (xTup (ab (xBin oSub (xC (.int 0)) (xBin oIx (xBin oIx (xVar 8) (xC (.int 1))) (xC (.int 0)))) (ab (xBin oIx (xBin oIx (xVar 8) (xC (.int 1))) (xC (.int 1))) xNil))) (xBin oIx (xVar 9) (xC (.int 0))))
 (xMt jJ 4 (ab (xVar 6) xNil)) dI dI)) xSkip)
 (xSeq (xFor (xItS (xVar 4)) (xNm 6) (xFor (xItS (xTup (ab (xVar 3) (ab (xSl (xVar 3) xNo (xPt (xC (.int 1)))) (ab (aP 1 [5] (xItS (xVar 3)) (ws':=[]) (xNm 0) (xB (xBin (oIn false) (xBin oIx (xVar 0) (xC (.int 0))) (xSl (xVar 1) xNo (xPt (xC (.int 1)))))) (xVar 0)) xNil))))) (xNm 7) (xSeq (xSet 10 (xCb bh (ab (xVar 6) xNil)))
 (xSeq (xSet 11 (ai dL (ab (xVar 7) (ab (xVar 10) xNil))))
 (xSeq (xSet 12 (aP 2 [6] (xItS (xVar 7)) (ws':=[]) (xGp (xGc (xNm 0) (xGc (xNm 1) xGl)) 2) xTrue (xBin oEq (ai bZ (ab (xVar 0) (ab (xVar 2) xNil))) (xTup (ab (xC (.int 0)) (ab (xC (.int 1)) xNil))))))
 (xIf (xOr (xNot (xB (xUn (oIsi ["bool"]) (xVar 11)))) (xOr (xB (xBin oNe (xVar 11) (xBin (oIn true) (xC (.bl false)) (xVar 12)))) (xB (xBin oNe (xVar 10) (xVar 6))))) (xRet (xC (.bl false))) xSkip))))))
 (xRet (xC (.bl true)))) (lm (by decide)) (if_keep (gp (qP (by decide) (by decide)) (gp (lm (by decide)) (gp dI (gp dI pz)))) qs)))
def iL:Fn:=xDef 13 3 iR
theorem pv {ds:List D} {s:Pen} (h:ds.length=3):iL.p ds s=(iR.p (dSt 13 ds) s).fin:=bo h
def gR:Xd [7]:=(xSeq (xSet 3 (aP 1 [0] (xItS (xVar 2)) (ws':=[]) (xNm 0) xTrue (xTup (ab (xVar 0) (ab (ai aH (ab (xVar 1) xNil)) xNil)))))
 (xSeq (xSet 4 (aP 1 [0] (xItS (xVar 2)) (ws':=[]) (xNm 0) xTrue (ai aH (ab (xVar 1) xNil))))
 (xSeq (xSet 5 (ai bE (ab (xVar 1) (ab (xVar 3) (ab (xVar 4) xNil)))))
 (xSeq (xSet 6 (aP 1 [] (xItS (xVar 5)) (ws':=[]) (xNm 0) xTrue (xTup (ab (xBin oSub (xC (.int 0)) (xBin oIx (xVar 0) (xC (.int 0)))) (ab (xBin oIx (xVar 0) (xC (.int 1))) xNil)))))
 (xSeq (hR 7 (xBin oAdd (xVar 3) (xLst (ab (xTup (ab (ai eA (ab (xVar 1) (ab (xSl (xVar 6) xNo (xPt (xVar 1))) xNil))) (ab (ai bn (ab (xTup (ab (xC (.int 1)) (ab (xC (.int 1)) xNil))) (ab (xBin oIx (xVar 6) (xVar 1)) xNil))) xNil))) xNil))))
 (xSeq (xIf (xB (xBin (oIs true) (ai cE (ab (xVar 1) (ab (xCb bh (ab (xVar 7) xNil)) (ab (xBin oAdd (xVar 4) (xLst (ab (xTup (ab (xC (.int 1)) (ab (xC (.int 1)) xNil))) xNil))) xNil)))) (xC (.bl true)))) (xRet (xC (.bl false))) xSkip)
 (xSeq (xIf (xB (xBin oEq (ai aK (ab (xVar 0) (ab (xC (.int 2)) xNil))) (xC (.int 0)))) (xSub 7 (xTup (ab (xBin oIx (xBin oIx (xVar 7) (xUn oNeg (xC (.int 1)))) (xC (.int 0))) (ab (xBin oIx (xLst (ab (xTup (ab (xC (.int 0)) (ab (xC (.int 1)) xNil))) (ab (xBin oIx (xVar 6) (xVar 1)) (ab (ai aH (ab (xVar 0) xNil)) xNil)))) (ai aK (ab (xVar 0) (ab (xC (.int 3)) xNil)))) xNil))) (xUn oNeg (xC (.int 1)))) xSkip)
 (xSeq (xSet 8 (ai fg (ab (xVar 0) (ab (xBin oAdd (xVar 4) (xLst (ab (xTup (ab (xC (.int 1)) (ab (xC (.int 1)) xNil))) xNil))) xNil))))
 (xSeq (xSet 9 (xCb bh (ab (xVar 8) xNil)))
 (xSeq (xSet 10 (ai cE (ab (xVar 1) (ab (xCb bh (ab (xVar 7) xNil)) (ab (xVar 9) xNil)))))
 (xSeq (xSet 11 (xBin oEq (oA bE (ab (xVar 1) (ab (xVar 7) (ab (xVar 8) xNil)))) (xBin oAdd (xBin oMul (xLst (ab (xTup (ab (xC (.int 0)) (ab (xC (.int 1)) xNil))) xNil)) (xVar 1)) (xLst (ab (xTup (ab (xC (.int 1)) (ab (xC (.int 1)) xNil))) xNil)))))
 (xRet (fv (xBin oEq (xVar 9) (xVar 8)) (fv (xUn (oIsi ["bool"]) (xVar 10)) (xBin oEq (xVar 10) (xVar 11))))))))))))))))
def gG:Fn:=xDef 12 3 gR
theorem nO {ds:List D} {s:Pen} (h:ds.length=3):gG.p ds s=(gR.p (dSt 12 ds) s).fin:=bo h
def iM:Xd [7]:=(xSeq (xSet 3 (aP 1 [0] (xItS (xVar 2)) (ws':=[]) (xNm 0) xTrue (xTup (ab (xVar 0) (ab (ai aH (ab (xVar 1) xNil)) xNil)))))
 (xSeq (xSet 4 (aP 1 [0] (xItS (xVar 2)) (ws':=[]) (xNm 0) xTrue (ai aH (ab (xVar 1) xNil))))
 (xSeq (xSet 5 (ai aK (ab (xVar 0) (ab (xVar 1) xNil))))
 (xSeq (xSet 6 (aP 1 [5,0] (xItA iR1 (ab (xVar 1) xNil)) (ws':=[]) (xNm 0) (xAnd (xB (xBin oNe (xVar 0) (xVar 1))) (xB (xBin oEq (ai aK (ab (xVar 2) (ab (xC (.int 2)) xNil))) (xC (.int 0))))) (xVar 0)))
 (xSeq (hR 7 (aP 2 [] (xItS (xSl (ai bE (ab (xVar 1) (ab (xVar 3) (ab (xVar 4) xNil)))) xNo (xPt (xVar 1)))) (ws':=[]) (xGp (xGc (xNm 0) (xGc (xNm 1) xGl)) 2) xTrue (xTup (ab (xBin oSub (xC (.int 0)) (xVar 0)) (ab (xVar 1) xNil)))))
 (xSeq (xSub 7 (ai bn (ab (xBin oIx (xVar 7) (xVar 5)) (ab (xTup (ab (xC (.int 1)) (ab (xC (.int 1)) xNil))) xNil))) (xVar 5))
 (xSeq (xSet 8 (xBin oAdd (xVar 3) (xLst (ab (xTup (ab (oA eA (ab (xVar 1) (ab (xVar 7) xNil))) (ab (ai aH (ab (xVar 0) xNil)) xNil))) xNil))))
 (xSeq (xSet 9 (ai fg (ab (xVar 0) (ab (xBin oAdd (xVar 4) (xLst (ab (xTup (ab (xC (.int 1)) (ab (xC (.int 1)) xNil))) xNil))) xNil))))
 (xSeq (xFor (xItS (xLst (ab (xTup (ab (xVar 8) (ab (xBin oAdd (xVar 4) (xLst (ab (xTup (ab (xC (.int 1)) (ab (xC (.int 1)) xNil))) xNil))) (ab (xLst xNil) xNil)))) (ab (xTup (ab (xVar 8) (ab (xVar 9) (ab (xLst xNil) xNil)))) (ab (xTup (ab (xVar 8) (ab (xVar 9) (ab (xVar 6) xNil)))) (ab (xTup (ab (xVar 3) (ab (xVar 4) (ab (xVar 6) xNil)))) xNil)))))) (xGp (xGc (xNm 10) (xGc (xNm 11) (xGc (xNm 12) xGl))) 3) (xSeq (xSet 13 (ai bE (ab (xVar 1) (ab (xVar 10) (ab (xVar 11) xNil)))))
 (xSeq (xSet 14 (aP 1 [13,5,12] (xItA iR1 (ab (xVar 1) xNil)) (ws':=[]) (xNm 0) (xB (xBin (oIn true) (xVar 0) (xVar 3))) (xBin oEq (xBin oIx (xVar 1) (xVar 0)) (xTup (ab (xCb cInt (ab (xBin oEq (xVar 0) (xVar 2)) xNil)) (ab (xC (.int 1)) xNil))))))
 (xSeq (xSet 15 (xLst (ab (xCb bh (ab (xVar 12) xNil)) (ab (xCb bh (ab (xVar 11) xNil)) xNil))))
 (xSeq (xSet 16 (ai ie (ab (xVar 1) (ab (xCb bh (ab (xVar 10) xNil)) (ab (xBin oIx (xVar 15) (xC (.int 0))) (ab (xVar 5) (ab (xBin oIx (xVar 15) (xC (.int 1))) xNil)))))))
 (xIf (xOr (xNot (xB (xUn (oIsi ["bool"]) (xVar 16)))) (xOr (xB (xBin oNe (xVar 16) (xBin (oIn true) (xC (.bl false)) (xVar 14)))) (xB (xBin oNe (xVar 15) (xLst (ab (xVar 12) (ab (xVar 11) xNil))))))) (xRet (xC (.bl false))) xSkip))))))
 (xRet (xC (.bl true))))))))))))
def iX:Fn:=xDef 17 3 iM
theorem pF {ds:List D} {s:Pen} (h:ds.length=3):iX.p ds s=(iM.p (dSt 17 ds) s).fin:=bo h
def dY:Xd []:=(xSeq (xSet 3 (ai aK (ab (xVar 2) (ab (xC (.int 8)) xNil))))
 (xSeq (xSet 4 (aP 1 [2,3] (xItA iR1 (ab (ai aK (ab (xVar 2) (ab (xC (.int 9)) xNil))) xNil)) (ws':=[]) (xNm 0) xTrue (ai d5 (ab (xVar 1) (ab (xVar 2) (ab (xC (.int 3)) xNil))))))
 (xSeq (xIf (xOr (xNot (xB (ai fI (ab (xVar 2) (ab (xVar 3) (ab (xVar 4) xNil)))))) (xOr (xNot (xB (ai iL (ab (xVar 2) (ab (xVar 3) (ab (xVar 4) xNil)))))) (xNot (xB (ai gG (ab (xVar 2) (ab (xVar 3) (ab (xVar 4) xNil)))))))) (xRet (xC (.bl false))) xSkip)
 (xIf (xAnd (xB (xBin oGt (xVar 3) (xC (.int 0)))) (xNot (xB (ai iX (ab (xVar 2) (ab (xVar 3) (ab (xVar 4) xNil))))))) (xRet (xC (.bl false))) xSkip))))
def gL:Xd []:=(xSeq (xIf (xOr (xB (xBin (oIs true) (ai cA (ab (xLst xNil) (ab (xLst xNil) xNil))) (xC (.bl true)))) (xB (xBin (oIs true) (ai dL (ab (xLst (ab (xTup (ab (xTup xNil) (ab (xTup (ab (xC (.int 1)) (ab (xC (.int 2)) xNil))) xNil))) xNil)) (ab (xLst xNil) xNil))) (xC (.bl true))))) (xRet (xC (.bl false))) xSkip)
 (xRet (fv (xBin (oIs false) (ai cE (ab (xC (.int 0)) (ab (xLst (ab (xTup (ab (xTup xNil) (ab (xTup (ab (xC (.int 2)) (ab (xC (.int 1)) xNil))) xNil))) xNil)) (ab (xLst (ab (xTup (ab (xC (.int 1)) (ab (xC (.int 2)) xNil))) xNil)) xNil)))) (xC (.bl true))) (xBin (oIs false) (ai cE (ab (xC (.int 0)) (ab (xLst xNil) (ab (xLst xNil) xNil)))) (xC (.bl false))))))
end
end Law
namespace Law
open PySem MM PU SetT SortT
open L2 (ixN atI CPow)
set_option maxHeartbeats 1000000
abbrev nD (t b:Int):D:=.tup [.int t,.int b]
theorem lI {a b:Int} (ha:0≤a) (hb:0≤b):Int.gcd b (a % b)=Int.gcd a b:=by
 obtain ⟨m,rfl⟩:=Int.eq_ofNat_of_zero_le ha
 obtain ⟨n,rfl⟩:=Int.eq_ofNat_of_zero_le hb
 show Nat.gcd n (m % n)=Nat.gcd m n
 rw[Nat.gcd_comm m n,Nat.gcd_rec n m,Nat.gcd_comm]
theorem kW {a b:Int} (hb:0<b):oMod.p (.int a) (.int b)=some (.int (a % b)):=by
 rw[oMod_ii (by omega),Int.fmod_eq_emod_of_nonneg _ (by omega)]
theorem nE {a b:Int} (hb:0<b) (hl:b.natAbs.log2<9000):oFd.p (.int a) (.int b)=some (.int (a / b)):=by
 show (if b≠0∧Builtin.divisionGoesByPylong a b=false then _ else _)=_
 rw[if_pos ⟨by omega,PyProof.noPylong_of_log2 hl⟩,Int.fdiv_eq_ediv_of_nonneg _ (by omega)]
theorem abs_nn {a:Int}:(if a<0 then -a else a)=(a.natAbs:Int):=by split <;> omega
theorem cAbs_i {a:Int}:cAbs.p [.int a]=some (.int (a.natAbs:Int)):=by
 show some (D.int (if a<0 then -a else a))=_
 rw[abs_nn]
theorem xWh_p {ws:List Nat} {N:Nat} {t:Xt ws} {b:Xd ws} (hm:∀{σ h n},mWhN t.m b.m n σ h≠.bad→mWh t.m b.m σ h=mWhN t.m b.m n σ h) {env:DEnv} {s:Pen}:(xWh N t b hm).p env s=pWhN t.p b.p N env s:=rfl
theorem qA {b r:Int} (h0:0<r) (h1:r<b):0≤b % r∧b % r<r∧2 * (b % r)<b:=by
 have a1:=Int.emod_nonneg b (show r≠0 by omega)
 have a2:=Int.emod_lt_of_pos b h0
 have a3:=Int.mul_ediv_add_emod b r
 have a4:1≤b / r:=by rw[Int.le_ediv_iff_mul_le h0];omega
 have a5:r * 1≤r * (b / r):=Int.mul_le_mul_of_nonneg_left a4 (by omega)
 omega
theorem gH {a:Int} (h:0≤a):((Int.gcd a 0:Nat):Int)=a:=by rw[Int.gcd_zero_right];omega
noncomputable abbrev lowT:Xt []:=xB (xBin oGt (xVar 3) (xC (.int 0)))
noncomputable abbrev lowB:Xd []:=xPar 2 3 (ab (xVar 3) (ab (xBin oMod (xVar 2) (xVar 3)) xNil))
theorem low1 {x y:Option D} {a b:Int} {n:Nat} {s:Pen} (hb:0<b):pWhN lowT.p lowB.p (n+1) [x,y,some (.int a),some (.int b)] s=pWhN lowT.p lowB.p n [x,y,some (.int b),some (.int (a % b))] s:=by
 rw[pWhN]
 simp[kW hb,hb,PR.bl]
theorem low0 {x y:Option D} {a:Int} {n:Nat} {s:Pen}:pWhN lowT.p lowB.p (n+1) [x,y,some (.int a),some (.int 0)] s=.nx [x,y,some (.int a),some (.int 0)] s:=by
 rw[pWhN]
 simp[PR.bl]
theorem low_run {x y:Option D} {s:Pen}:∀(k n:Nat) (a b:Int),0≤a→0≤b→b<2 ^ k→2 * k+1≤n→pWhN lowT.p lowB.p n [x,y,some (.int a),some (.int b)] s=.nx [x,y,some (.int (Int.gcd a b)),some (.int 0)] s:=by
 intro k
 induction k with
 | zero =>
  intro n a b ha hb hk hn
  obtain ⟨m,rfl⟩:∃m,n=m+1:=⟨n - 1,by omega⟩
  have:b=0:=by simp at hk;omega
  subst this
  rw[low0,gH ha]
 | succ k ih =>
  intro n a b ha hb hk hn
  obtain ⟨m,rfl⟩:∃m,n=m+1+1:=⟨n - 2,by omega⟩
  by_cases e:b=0
  ·subst e
   rw[low0,gH ha]
  ·have hb':0<b:=by omega
   rw[low1 hb',←lI ha hb]
   have r0:=Int.emod_nonneg a e
   have r1:=Int.emod_lt_of_pos a hb'
   generalize a % b=r at r0 r1 ⊢
   by_cases er:r=0
   ·subst er
    rw[low0,gH hb]
   ·obtain ⟨h0,h1,h2⟩:=qA (b:=b) (r:=r) (by omega) r1
    rw[low1 (by omega),←lI hb r0]
    refine ih m r (b % r) r0 h0 ?_ (by omega)
    rw[Int.pow_succ] at hk
    omega
theorem log_of {b:Int} {k:Nat} (hk:0<k) (h:b.natAbs<2 ^ k):b.natAbs.log2<k:=by
 rcases Nat.eq_zero_or_pos b.natAbs with e|e
 ·rw[e];simpa using hk
 ·exact (Nat.log2_lt (by omega)).mpr h
theorem gcd_log {t b:Int} (hb:0<b) (hk:b<2 ^ 1990):(Nat.gcd t.natAbs b.natAbs:Int).natAbs.log2<9000:=by
 have h:Nat.gcd t.natAbs b.natAbs ∣ b.natAbs:=Nat.gcd_dvd_right _ _
 have h2:=Nat.le_of_dvd (by omega) h
 have h3:b.natAbs<2 ^ 1990:=by
  have e:((b.natAbs:Int))=b:=by omega
  have:((b.natAbs:Nat):Int)<((2 ^ 1990:Nat):Int):=by rw[e];simpa using hk
  exact Int.ofNat_lt.mp this
 refine log_of (k:=9000) (by decide) ?_
 rw[Int.natAbs_natCast]
 exact Nat.lt_trans (Nat.lt_of_le_of_lt h2 h3) (Nat.pow_lt_pow_right (by decide) (by decide))
abbrev qD (q:Rat):D:=nD q.num (q.den:Int)
def sz (q:Rat):Nat:=max (q.num.natAbs.log2+1) (q.den.log2+1)
theorem o5 (n:Nat):n<2 ^ (n.log2+1):=Nat.lt_log2_self
theorem cD (q:Rat):q.num.natAbs<2 ^ sz q:=Nat.lt_of_lt_of_le (o5 _) (Nat.pow_le_pow_right (by decide) (Nat.le_max_left _ _))
theorem bJ (q:Rat):q.den<2 ^ sz q:=Nat.lt_of_lt_of_le (o5 _) (Nat.pow_le_pow_right (by decide) (Nat.le_max_right _ _))
theorem lq {n k:Nat} (hk:0<k) (h:n<2 ^ k):n.log2+1≤k:=by
 rcases Nat.eq_zero_or_pos n with e|e
 ·subst e;simp only[Nat.log2_zero];omega
 ·exact (Nat.log2_lt (by omega)).mpr h
theorem sz_le {q:Rat} {k:Nat} (hk:0<k) (h1:q.num.natAbs<2 ^ k) (h2:q.den<2 ^ k):sz q≤k:=Nat.max_le.mpr ⟨lq hk h1,lq hk h2⟩
theorem pk (q:Rat):0<sz q:=Nat.lt_of_lt_of_le (Nat.succ_pos _) (Nat.le_max_left _ _)
theorem nG (t:Int) (b:Nat) (hb:b≠0):(Rat.divInt t b).num=t / (Nat.gcd t.natAbs b:Int)∧(Rat.divInt t b).den=b / Nat.gcd t.natAbs b:=by
 rw[Rat.divInt_ofNat]
 unfold mkRat
 rw[dif_neg hb,Rat.normalize_eq]
 exact ⟨rfl,rfl⟩
theorem div_abs {t:Int} {g:Nat}:(t / (g:Int)).natAbs≤t.natAbs:=Int.natAbs_ediv_le_natAbs t g
theorem lJ {t:Int} {b k:Nat} (hb:b≠0) (hk:0<k) (h1:t.natAbs<2 ^ k) (h2:b<2 ^ k):sz (Rat.divInt t b)≤k:=by
 obtain ⟨e1,e2⟩:=nG t b hb
 refine sz_le hk ?_ ?_
 ·rw[e1];exact Nat.lt_of_le_of_lt div_abs h1
 ·rw[e2];exact Nat.lt_of_le_of_lt (Nat.div_le_self _ _) h2
theorem mY (p q:Rat):p+q=Rat.divInt (p.num * q.den+q.num * p.den) ((p.den * q.den:Nat):Int):=by
 have:=Rat.divInt_add_divInt p.num q.num (d₁:=p.den) (d₂:=q.den) (by have:=p.den_nz;omega) (by have:=q.den_nz;omega)
 rw[Rat.num_divInt_den,Rat.num_divInt_den] at this
 rw[this];push_cast;rfl
theorem jN (p q:Rat):p * q=Rat.divInt (p.num * q.num) ((p.den * q.den:Nat):Int):=by
 have:=Rat.divInt_mul_divInt p.num q.num (d₁:=p.den) (d₂:=q.den)
 rw[Rat.num_divInt_den,Rat.num_divInt_den] at this
 rw[this];push_cast;rfl
theorem bP {a b j k:Nat} (h1:a<2 ^ j) (h2:b<2 ^ k):a * b<2 ^ (j+k):=by
 rw[Nat.pow_add]
 exact Nat.mul_lt_mul'' h1 h2
theorem sum_lt {a b c d:Int} {j k:Nat} (h1:a.natAbs<2 ^ j) (h2:b.natAbs<2 ^ k) (h3:c.natAbs<2 ^ k) (h4:d.natAbs<2 ^ j):(a * b+c * d).natAbs<2 ^ (j+k+1):=by
 have e1:=bP h1 h2
 have e2:=bP h3 h4
 have e3:=Int.natAbs_add_le (a * b) (c * d)
 rw[Int.natAbs_mul,Int.natAbs_mul] at e3
 rw[Nat.add_comm k j] at e2
 rw[Nat.pow_succ]
 omega
theorem d4 (p q:Rat):sz (p+q)≤sz p+sz q+1:=by
 rw[mY]
 refine lJ (Nat.mul_ne_zero p.den_nz q.den_nz) (by omega) ?_ ?_
 ·exact sum_lt (cD p) (by simpa using bJ q) (cD q) (by simpa using bJ p)
 ·have:=bP (bJ p) (bJ q)
  rw[Nat.pow_succ];omega
theorem fS (p q:Rat):sz (p * q)≤sz p+sz q:=by
 rw[jN]
 refine lJ (Nat.mul_ne_zero p.den_nz q.den_nz) (by have:=pk p;omega) ?_ (bP (bJ p) (bJ q))
 rw[Int.natAbs_mul]
 exact bP (cD p) (cD q)
theorem lg (p:Rat):sz (-p)=sz p:=by
 unfold sz
 rw[Rat.neg_num,Rat.neg_den,Int.natAbs_neg]
theorem iV {t:Int} {b:Nat} {s:Pen} (hb:b≠0) (hk:b<2 ^ 1990):ck.p [.int t,.int (b:Int)] s=.ok (qD (Rat.divInt t b)) s:=by
 obtain ⟨e1,e2⟩:=nG t b hb
 have hb':(0:Int)<(b:Int):=by omega
 have hkI:((b:Nat):Int)<2 ^ 1990:=by
  have:=Int.ofNat_lt.mpr hk
  simpa using this
 have h0:0<(Nat.gcd t.natAbs b:Int):=by
  have:0<Nat.gcd t.natAbs b:=Nat.gcd_pos_of_pos_right _ (by omega)
  omega
 rw[mj (by rfl)];unfold gq
 have e0:dSt 4 [D.int t,.int (b:Int)]=[some (.int t),some (.int (b:Int)),none,none]:=rfl
 have q:=low_run (x:=some (.int t)) (y:=some (.int (b:Int))) (s:=s) 1990 4000 (t.natAbs:Int) ((b:Int).natAbs:Int) (by omega) (by omega) (by simpa using hkI) (by omega)
 rw[e0]
 simp only[aF,pc,aj,ar,bK,am,aq,PR.bind_ok,cAbs_i,PR.of_some,PR.go_ok,List.set_cons_succ,List.set_cons_zero,PU.aw]
 rw[xWh_p o7]
 refine (congrArg (fun z:PS=>(z.then _).fin) q).trans ?_
 rw[Int.gcd_natCast_natCast,Int.natAbs_natCast]
 have gl:=gcd_log (t:=t) hb' hkI
 rw[Int.natAbs_natCast] at gl
 have f1:=nE (a:=t) h0 gl
 have f2:=nE (a:=(b:Int)) h0 gl
 rw[qD,e1,e2]
 simp[PR.bl,show ¬(b:Int)<0 by omega,f1,f2]
theorem nq {a:Int} (h:a.natAbs<2 ^ 2000):Builtin.Int.intBits a≤2 ^ 20:=by
 unfold Builtin.Int.intBits
 have:=lq (by decide) h
 split <;> omega
theorem bY {a b:Int} (h1:a.natAbs<2 ^ 2000) (h2:b.natAbs<2 ^ 2000):oMul.p (.int a) (.int b)=some (.int (a * b)):=if_pos (IntMulOk.of_bits (nq h1) (nq h2))
theorem bq {a k:Nat} (h:a<2 ^ k) (hk:k≤2000):a<2 ^ 2000:=Nat.lt_of_lt_of_le h (Nat.pow_le_pow_right (by decide) hk)
theorem z0 {x y:D}:atI [x,y] 0=some x:=rfl
theorem z1 {x y:D}:atI [x,y] 1=some y:=rfl
theorem eX {p q:Rat} {s:Pen} (h:sz p+sz q≤1900):bn.p [qD p,qD q] s=.ok (qD (p+q)) s:=by
 have a1:=bq (cD p) (by omega)
 have a2:=bq (bJ p) (by omega)
 have a3:=bq (cD q) (by omega)
 have a4:=bq (bJ q) (by omega)
 rw[qe (by rfl)];unfold iS
 rw[show dSt 2 [qD p,qD q]=[some (qD p),some (qD q)] from rfl]
 have l:=iV (t:=p.num * q.den+q.num * p.den) (b:=p.den * q.den) (s:=s) (Nat.mul_ne_zero p.den_nz q.den_nz) (Nat.lt_of_lt_of_le (bP (bJ p) (bJ q)) (Nat.pow_le_pow_right (by decide) (by omega)))
 rw[←mY,Int.natCast_mul] at l
 simp only[bH,aA,aj,aB,am,aq,PR.bind_ok,xC_p,aD,bO,z0,z1,PR.of_some,ar,bY (b:=(q.den:Int)) a1 (by simpa using a4),bY (b:=(p.den:Int)) a3 (by simpa using a2),eI,l,PR.go_ok,PU.bv,
  bY (a:=(p.den:Int)) (b:=(q.den:Int)) (by simpa using a2) (by simpa using a4)]
theorem jK {p q:Rat} {s:Pen} (h:sz p+sz q≤1900):b8.p [qD p,qD q] s=.ok (qD (p * q)) s:=by
 have a1:=bq (cD p) (by omega)
 have a2:=bq (bJ p) (by omega)
 have a3:=bq (cD q) (by omega)
 have a4:=bq (bJ q) (by omega)
 rw[oH (by rfl)];unfold gN
 rw[show dSt 2 [qD p,qD q]=[some (qD p),some (qD q)] from rfl]
 have l:=iV (t:=p.num * q.num) (b:=p.den * q.den) (s:=s) (Nat.mul_ne_zero p.den_nz q.den_nz) (Nat.lt_of_lt_of_le (bP (bJ p) (bJ q)) (Nat.pow_le_pow_right (by decide) (by omega)))
 rw[←jN,Int.natCast_mul] at l
 simp only[bH,aA,aj,aB,am,aq,PR.bind_ok,xC_p,aD,bO,z0,z1,PR.of_some,ar,bY a1 a3,bY (a:=(p.den:Int)) (b:=(q.den:Int)) (by simpa using a2) (by simpa using a4),l,PR.go_ok,PU.bv]
theorem qu {t:Int} {b:Nat} (hb:b≠0) (h1:t.natAbs≤1000000) (h2:b≤1000000):sz (Rat.divInt t b)≤20:=lJ hb (by decide) (by omega) (by omega)
theorem kq {t b:Int} {s:Pen} (hb:1≤b) (h1:t.natAbs≤1000000) (h2:b≤1000000):∃q:Rat,ck.p [.int t,.int b] s=.ok (qD q) s∧sz q≤20:=by
 obtain ⟨n,rfl⟩:=e9 (show 0≤b by omega)
 have k:(1000001:Nat)≤2 ^ 1990:=by decide +kernel
 exact ⟨_,iV (by omega) (by omega),qu (by omega) h1 (by omega)⟩
theorem fi {s:Pen}:∃q s',aH.p [.pen] s=.ok (qD q) s'∧sz q≤20:=by
 obtain ⟨w,s1,w0,w1,q1⟩:=bz (s:=s) (size:=8) (by decide) (by decide)
 rw[mr (by rfl)];unfold gs
 rw[show dSt 2 [D.pen]=[some .pen,none] from rfl]
 by_cases e7:w=7
 ·subst e7
  obtain ⟨a,s2,a0,a1,q2⟩:=bz (s:=s1) (size:=2 * 10 ^ 6 - 1) (by decide) (by decide)
  obtain ⟨b,s3,b0,b1,q3⟩:=bz (s:=s2) (size:=10 ^ 6 - 1) (by decide) (by decide)
  obtain ⟨q,l,hq⟩:=kq (t:=a - 10 ^ 6+1) (b:=1+b) (s:=s3) (by omega) (by omega) (by omega)
  refine ⟨q,s3,?_,hq⟩
  have p6:oPow.p (.int 10) (.int 6)=some (.int (10 ^ 6)):=if_pos ⟨by decide,by decide,by decide⟩
  have m2:oMul.p (.int 2) (.int (10 ^ 6))=some (.int (2 * 10 ^ 6)):=bY (Nat.lt_of_lt_of_le (show 2<2 ^ 2 by decide) (Nat.pow_le_pow_right (by decide) (by decide))) (Nat.lt_of_lt_of_le (show (10 ^ 6:Int).natAbs<2 ^ 20 by decide) (Nat.pow_le_pow_right (by decide) (by decide)))
  simp only[aF,aR,aA,aj,am,aq,xC_p,aD,ar,PR.bind_ok,q1,PR.go_ok,List.set_cons_succ,List.set_cons_zero,PU.aw,cL,xB_p,aB,ce,bR,PR.of_some,PR.bl,decide_true,if_true,bH,Bool.false_eq_true,if_false,p6,m2,fN,q2,eI,q3,l,PU.ny,PU.bv]
 ·obtain ⟨m,em,m0,m1⟩:∃m:Int,atI [D.int 1,.int 1,.int 5] (w % 3)=some (.int m)∧0<m∧m≤5:=by
   obtain e|e | e:w % 3=0∨w % 3=1∨w % 3=2:=by omega
   ·rw[e];exact ⟨1,rfl,by decide,by decide⟩
   ·rw[e];exact ⟨1,rfl,by decide,by decide⟩
   ·rw[e];exact ⟨5,rfl,by decide,by decide⟩
  obtain ⟨a,s2,a0,a1,q2⟩:=bz (s:=s1) (size:=13) (by decide) (by decide)
  obtain ⟨b,s3,b0,b1,q3⟩:=bz (s:=s2) (size:=m) m0 (by omega)
  obtain ⟨q,l,hq⟩:=kq (t:=a - 6) (b:=1+b) (s:=s3) (by omega) (by omega) (by omega)
  refine ⟨q,s3,?_,hq⟩
  simp only[aF,aR,aA,aj,am,aq,xC_p,aD,ar,PR.bind_ok,q1,PR.go_ok,List.set_cons_succ,List.set_cons_zero,PU.aw,cL,xB_p,aB,ce,bR,PR.of_some,PR.bl,decide_eq_false e7,if_true,bH,Bool.false_eq_true,if_false,kW (show (0:Int)<3 by decide),bF,List.length_cons,List.length_nil,show (0+1+1+1:Nat)≤100000 by decide,ca,em,fN,q2,eI,q3,l,cy,PU.bv]
theorem k8 {s:Pen}:∃q s',db.p [.pen] s=.ok (qD q) s'∧sz q≤20:=by
 obtain ⟨q,s1,q1,hq⟩:=fi (s:=s)
 obtain ⟨a,s2,a0,a1,q2⟩:=bz (s:=s1) (size:=9) (by decide) (by decide)
 have hn:(((1+a:Int):Int):Rat).num=1+a∧(((1+a:Int)):Rat).den=1:=⟨rfl,rfl⟩
 rw[p7 (by rfl)];unfold i3
 rw[show dSt 2 [D.pen]=[some .pen,none] from rfl]
 have e:∀x y:D,∀b:Bool,atI [x,y] (if b then 1 else 0)=some (if b then y else x):=fun x y b=>by cases b <;> rfl
 refine ⟨if decide (q.num=0)=true then ((1+a:Int):Rat) else q,s2,?_,?_⟩
 ·simp only[aF,aR,aA,aj,am,aq,xC_p,aD,ar,PR.bind_ok,q1,PR.go_ok,List.set_cons_succ,List.set_cons_zero,PU.aw,bH,aB,bF,aU,q2,eI,PR.of_some,List.length_cons,List.length_nil,show (0+1+1:Nat)≤100000 by decide,if_true,bK,bO,z0,ce,bR,Bool.false_eq_true,if_false,ph,ca,e,PU.bv]
  cases decide (q.num=0)
  ·rfl
  ·rfl
 ·split
  ·refine sz_le (by decide) ?_ ?_
   ·show (1+a).natAbs<_;omega
   ·show 1<_;decide
  ·exact hq
abbrev prD (p:Rat × Rat):D:=.tup [qD p.1,qD p.2]
def dotF (a:Rat) (l:List (Rat × Rat)):Rat:=l.foldl (fun s p=>s+p.1 * p.2) a
abbrev dot (l:List (Rat × Rat)):Rat:=dotF 0 l
def wt (p:Rat × Rat):Nat:=sz p.1+sz p.2+1
def tot (l:List (Rat × Rat)):Nat:=(l.map wt).sum
theorem eV {p:Rat × Rat} {l:List (Rat × Rat)}:tot (p::l)=wt p+tot l:=by simp[tot]
theorem tot_le {l:List (Rat × Rat)} {c m:Nat} (hl:l.length≤m) (h:∀p∈l,wt p≤c):tot l≤m * c:=by
 have:tot l≤l.length * c:=by
  clear hl
  induction l with
  | nil=>simp[tot]
  | cons p l ih =>
   have h1:=h p (by simp)
   have h2:=ih fun q hq=>h q (List.mem_cons_of_mem _ hq)
   rw[eV,List.length_cons,Nat.succ_mul];omega
 exact Nat.le_trans this (Nat.mul_le_mul_right _ hl)
theorem m9:∀(l:List (Rat × Rat)) (a:Rat),sz (dotF a l)≤sz a+tot l
 | [],a=>by simp[dotF,tot]
 | p::l,a=>by
  have h:=m9 l (a+p.1 * p.2)
  have h1:=d4 a (p.1 * p.2)
  have h2:=fS p.1 p.2
  rw[eV]
  show sz (dotF (a+p.1 * p.2) l)≤_
  unfold wt
  omega
theorem sz0:sz 0=1:=by decide +kernel
theorem sz1:sz 1=1:=by decide +kernel
theorem sz_dot (l:List (Rat × Rat)):sz (dot l)≤1+tot l:=by have:=m9 l 0;rw[sz0] at this;exact this
noncomputable abbrev ctB:Xd []:=(xSeq (xSet 2 (xBin oAdd (xBin oMul (xBin oMul (xVar 2) (xBin oIx (xVar 4) (xC (.int 1)))) (xBin oIx (xVar 5) (xC (.int 1)))) (xBin oMul (xBin oMul (xBin oIx (xVar 4) (xC (.int 0))) (xBin oIx (xVar 5) (xC (.int 0)))) (xVar 3))))
 (xSet 3 (xBin oMul (xBin oMul (xVar 3) (xBin oIx (xVar 4) (xC (.int 1)))) (xBin oIx (xVar 5) (xC (.int 1))))))
noncomputable abbrev ctG:Xg []:=xGp (xGc (xNm 4) (xGc (xNm 5) xGl)) 2
theorem qR {top:Int} {bot:Nat} (hb:bot≠0) (p:Rat × Rat):Rat.divInt (top * p.1.den * p.2.den+p.1.num * p.2.num * bot) ((bot * p.1.den * p.2.den:Nat):Int)=Rat.divInt top bot+p.1 * p.2:=by
 rw[jN,Rat.divInt_add_divInt _ _ (by omega) (by have:=Nat.mul_ne_zero p.1.den_nz p.2.den_nz;omega)]
 push_cast
 rw[Int.mul_assoc top,Int.mul_assoc (bot:Int)]
theorem ct_step {top:Int} {bot k:Nat} {P W x4 x5:Option D} {s:Pen} {p:Rat × Rat} (h1:top.natAbs<2 ^ k) (h2:bot<2 ^ k) (hk:k+wt p≤1950) :
  ctB.p [P,W,some (.int top),some (.int (bot:Int)),some (qD p.1),some (qD p.2)] s=.nx [P,W,some (.int (top * p.1.den * p.2.den+p.1.num * p.2.num * bot)),some (.int ((bot * p.1.den * p.2.den:Nat):Int)),some (qD p.1),some (qD p.2)] s ∧
   (top * p.1.den * p.2.den+p.1.num * p.2.num * bot).natAbs<2 ^ (k+wt p)∧bot * p.1.den * p.2.den<2 ^ (k+wt p):=by
 have hw:wt p=sz p.1+sz p.2+1:=rfl
 have a1:=cD p.1
 have a2:=bJ p.1
 have a3:=cD p.2
 have a4:=bJ p.2
 have b1:(top * p.1.den).natAbs<2 ^ (k+sz p.1):=by rw[Int.natAbs_mul];exact bP h1 (by simpa using a2)
 have b2:(p.1.num * p.2.num).natAbs<2 ^ (sz p.1+sz p.2):=by rw[Int.natAbs_mul];exact bP a1 a3
 have b3:bot * p.1.den<2 ^ (k+sz p.1):=bP h2 a2
 have b4:bot * p.1.den * p.2.den<2 ^ (k+sz p.1+sz p.2):=bP b3 a4
 have b5:(top * p.1.den * p.2.den).natAbs<2 ^ (k+sz p.1+sz p.2):=by rw[Int.natAbs_mul];exact bP b1 (by simpa using a4)
 have b6:(p.1.num * p.2.num * bot).natAbs<2 ^ (sz p.1+sz p.2+k):=by rw[Int.natAbs_mul];exact bP b2 (by simpa using h2)
 refine ⟨?_,?_,?_⟩
 ·have c1:=bY (a:=top) (b:=(p.1.den:Int)) (bq h1 (by omega)) (by simpa using bq a2 (by omega))
  have c2:=bY (a:=top * p.1.den) (b:=(p.2.den:Int)) (bq b1 (by omega)) (by simpa using bq a4 (by omega))
  have c3:=bY (a:=p.1.num) (b:=p.2.num) (bq a1 (by omega)) (bq a3 (by omega))
  have c4:=bY (a:=p.1.num * p.2.num) (b:=(bot:Int)) (bq b2 (by omega)) (by simpa using bq h2 (by omega))
  have c5:=bY (a:=(bot:Int)) (b:=(p.1.den:Int)) (by simpa using bq h2 (by omega)) (by simpa using bq a2 (by omega))
  have c6:=bY (a:=(bot:Int) * p.1.den) (b:=(p.2.den:Int)) (by simpa [Int.natAbs_mul] using bq b3 (by omega)) (by simpa using bq a4 (by omega))
  simp only[aF,aR,aB,am,aq,PR.bind_ok,xC_p,aD,bO,z0,z1,PR.of_some,c1,c2,c3,c4,eI,PR.go_ok,List.set_cons_succ,List.set_cons_zero,PU.aw,c5,c6,Int.natCast_mul]
 ·have:=Int.natAbs_add_le (top * p.1.den * p.2.den) (p.1.num * p.2.num * bot)
  rw[hw,show k+(sz p.1+sz p.2+1)=k+sz p.1+sz p.2+1 by omega,Nat.pow_succ]
  rw[show sz p.1+sz p.2+k=k+sz p.1+sz p.2 by omega] at b6
  omega
 ·exact Nat.lt_of_lt_of_le b4 (Nat.pow_le_pow_right (by decide) (by omega))
theorem mR {P W:Option D} {s:Pen}:∀(l:List (Rat × Rat)) (k:Nat) (top:Int) (bot:Nat) (x4 x5:Option D),bot≠0→top.natAbs<2 ^ k→bot<2 ^ k→k+tot l≤1950 →
  ∃(top':Int) (bot':Nat) (x4' x5':Option D),pGo ctG.p ctB.p (l.map prD) [P,W,some (.int top),some (.int (bot:Int)),x4,x5] s=.nx [P,W,some (.int top'),some (.int (bot':Int)),x4',x5'] s∧bot'≠0 ∧
   top'.natAbs<2 ^ (k+tot l)∧bot'<2 ^ (k+tot l)∧Rat.divInt top' bot'=dotF (Rat.divInt top bot) l
 | [],k,top,bot,x4,x5,hb,h1,h2,hk=>⟨top,bot,x4,x5,rfl,hb,h1,h2,rfl⟩
 | p::l,k,top,bot,x4,x5,hb,h1,h2,hk=>by
  rw[eV] at hk ⊢
  obtain ⟨e1,e2,e3⟩:=ct_step (P:=P) (W:=W) (x4:=x4) (x5:=x5) (s:=s) (p:=p) h1 h2 (by omega)
  obtain ⟨top',bot',x4',x5',q,r1,r2,r3,r4⟩:=mR l (k+wt p) _ (bot * p.1.den * p.2.den) (some (qD p.1)) (some (qD p.2)) (Nat.mul_ne_zero (Nat.mul_ne_zero hb p.1.den_nz) p.2.den_nz) e2 e3 (by omega)
  refine ⟨top',bot',x4',x5',?_,r1,by rw[←Nat.add_assoc];exact r2,by rw[←Nat.add_assoc];exact r3,?_⟩
  ·rw[List.map_cons,f9 (env1:=[P,W,some (.int top),some (.int (bot:Int)),some (qD p.1),some (qD p.2)]) (by rfl),e1]
   exact q
  ·rw[r4,qR hb];rfl
theorem d8 {l:List (Rat × Rat)} {w:Rat} {s:Pen} (hk:tot l≤1900) (hw:sz w≤1900):bf.p [.lst (l.map prD),qD w] s=.ok (.bl (decide (dot l=w))) s:=by
 rw[mG (by rfl)];unfold gE
 rw[show dSt 6 [D.lst (l.map prD),qD w]=[some (.lst (l.map prD)),some (qD w),none,none,none,none] from rfl]
 obtain ⟨top,bot,x4,x5,q,hb,h1,h2,hv⟩:=mR (P:=some (.lst (l.map prD))) (W:=some (qD w)) (s:=s) l 1 0 1 none none (by decide) (by decide) (by decide) (by omega)
 have hv:Rat.divInt top bot=dot l:=by rw[hv];rfl
 simp only[aF,aR,xC_p,aD,PR.go_ok,List.set_cons_succ,List.set_cons_zero,PU.aw,eS,eQ,am,PR.bind_ok,show (D.lst (l.map prD)).items=some (l.map prD) from rfl,PR.of_some]
 refine (congrArg (fun z:PS=>(z.then _).fin) q).trans ?_
 have c1:=bY (a:=top) (b:=(w.den:Int)) (bq h1 (by omega)) (by simpa using bq (bJ w) (by omega))
 have c2:=bY (a:=w.num) (b:=(bot:Int)) (bq (cD w) (by omega)) (by simpa using bq h2 (by omega))
 have e:decide (top * (w.den:Int)=w.num * (bot:Int))=decide (dot l=w):=by
  rw[←hv]
  have:=Rat.divInt_eq_divInt_iff (n₁:=top) (n₂:=w.num) (d₁:=bot) (d₂:=w.den) (by omega) (by have:=w.den_nz;omega)
  rw[Rat.num_divInt_den] at this
  exact decide_eq_decide.mpr this.symm
 simp only[PU.aw,bH,aB,am,aq,PR.bind_ok,xC_p,aD,bO,z0,z1,PR.of_some,c1,c2,ce,bR,Bool.false_eq_true,if_false,e,PR.go_ok,PU.bv]
abbrev Pt:=Nat × Rat
abbrev ptD (p:Pt):D:=.tup [.int (p.1:Int),qD p.2]
abbrev Rw:=List Pt × Rat
abbrev rwD (r:Rw):D:=.tup [.tup (r.1.map ptD),qD r.2]
abbrev lD (xs:List Rat):D:=.lst (xs.map qD)
abbrev rsD (rs:List Rw):D:=.lst (rs.map rwD)
def prs (ps:List Pt) (xs:List Rat):List (Rat × Rat):=ps.map fun p=>(p.2,xs.getD p.1 0)
theorem at_q {xs:List Rat} {i:Nat} (h:i<xs.length):atI (xs.map qD) (i:Int)=some (qD (xs.getD i 0)):=by
 refine L2.cH ?_
 rw[List.getElem?_map,List.getElem?_eq_getElem h,List.getD_eq_getElem?_getD,List.getElem?_eq_getElem h];rfl
def pp (xs:List Rat):D→D
 | .tup [.int j,d]=>.tup [d,qD (xs.getD j.toNat 0)]
 | d=>d
theorem hJ {ps:List Pt} {xs:List Rat} {s:Pen} (hl:ps.length≤1000) (h:∀p∈ps,p.1<xs.length):dn.p [.tup (ps.map ptD),lD xs] s=.ok (.lst ((prs ps xs).map prD)) s:=by
 rw[kA (by rfl)];unfold fj
 rw[show dSt 2 [D.tup (ps.map ptD),lD xs]=[some (.tup (ps.map ptD)),some (lD xs)] from rfl,bH,comp2 (ds:=ps.map ptD) (fun _=>true) (pp xs) (by rfl) (by simp;omega) (fun x hx=>by
  obtain ⟨p,hp,rfl⟩:=List.mem_map.mp hx
  refine ⟨.int (p.1:Int),qD p.2,rfl,rfl,fun _=>?_⟩
  show (xTup _:Xe []).p [some (.int (p.1:Int)),some (qD p.2),some (lD xs)] s=_
  simp only[aU,aj,am,aq,PR.bind_ok,aB,ca,at_q (h p hp),PR.of_some,ar,List.length_cons,List.length_nil,show (0+1+1:Nat)≤100000 by decide,if_true,pp,Int.toNat_natCast])]
 rw[bx,List.map_map]
 have e:(ps.map (pp xs∘ptD))=(prs ps xs).map prD:=by
  unfold prs
  rw[List.map_map]
  refine List.map_congr_left fun p _=>?_
  simp[pp]
 rw[e]
 simp
noncomputable abbrev cmB:Xd []:=xSet 2 (ai bn (ab (xVar 2) (ab (ai b8 (ab (xVar 4) (ab (xBin oIx (xVar 1) (xVar 3)) xNil))) xNil)))
noncomputable abbrev cmG:Xg []:=xGp (xGc (xNm 3) (xGc (xNm 4) xGl)) 2
theorem nu {P:Option D} {xs:List Rat} {s:Pen}:∀(ps:List Pt) (a:Rat) (x3 x4:Option D),(∀p∈ps,p.1<xs.length)→sz a+tot (prs ps xs)≤1900 →
  ∃x3' x4':Option D,pGo cmG.p cmB.p (ps.map ptD) [P,some (lD xs),some (qD a),x3,x4] s=.nx [P,some (lD xs),some (qD (dotF a (prs ps xs))),x3',x4'] s
 | [],a,x3,x4,_,_=>⟨x3,x4,rfl⟩
 | p::ps,a,x3,x4,h,hk=>by
  have hc:prs (p::ps) xs=(p.2,xs.getD p.1 0)::prs ps xs:=rfl
  rw[hc,eV] at hk
  have hw:wt (p.2,xs.getD p.1 0)=sz p.2+sz (xs.getD p.1 0)+1:=rfl
  have m:=fS p.2 (xs.getD p.1 0)
  have ad:=d4 a (p.2 * xs.getD p.1 0)
  obtain ⟨x3',x4',q⟩:=nu (P:=P) (s:=s) ps (a+p.2 * xs.getD p.1 0) (some (.int (p.1:Int))) (some (qD p.2)) (fun y hy=>h y (List.mem_cons_of_mem _ hy)) (by omega)
  refine ⟨x3',x4',?_⟩
  have t:=jK (p:=p.2) (q:=xs.getD p.1 0) (s:=s) (by omega)
  have u:=eX (p:=a) (q:=p.2 * xs.getD p.1 0) (s:=s) (by omega)
  have e1:cmB.p [P,some (lD xs),some (qD a),some (.int (p.1:Int)),some (qD p.2)] s=.nx [P,some (lD xs),some (qD (a+p.2 * xs.getD p.1 0)),some (.int (p.1:Int)),some (qD p.2)] s:=by
   simp only[aR,aA,aj,am,aq,PR.bind_ok,aB,ca,at_q (h p (by simp)),PR.of_some,ar,t,u,PR.go_ok,List.set_cons_succ,List.set_cons_zero]
  rw[List.map_cons,f9 (env1:=[P,some (lD xs),some (qD a),some (.int (p.1:Int)),some (qD p.2)]) (by rfl),e1,hc]
  exact q
theorem jZ {ps:List Pt} {xs:List Rat} {s:Pen} (h:∀p∈ps,p.1<xs.length) (hk:tot (prs ps xs)≤1800):bZ.p [.tup (ps.map ptD),lD xs] s=.ok (qD (dot (prs ps xs))) s:=by
 rw[ot (by rfl)];unfold gT
 rw[show dSt 5 [D.tup (ps.map ptD),lD xs]=[some (.tup (ps.map ptD)),some (lD xs),none,none,none] from rfl]
 obtain ⟨x3',x4',q⟩:=nu (P:=some (.tup (ps.map ptD))) (s:=s) ps 0 none none h (by rw[sz0];omega)
 simp only[aF,aR,aU,aj,xC_p,aD,ar,PR.bind_ok,List.length_cons,List.length_nil,show (0+1+1:Nat)≤100000 by decide,if_true,PR.go_ok,List.set_cons_succ,List.set_cons_zero,PU.aw,eS,eQ,am,show (D.tup (ps.map ptD)).items=some (ps.map ptD) from rfl,PR.of_some]
 refine (congrArg (fun z:PS=>(z.then _).fin) q).trans ?_
 simp
theorem gO {α:Type} {g:D→DEnv→Option DEnv} {t:DEnv→Pen→PR Bool} {e:DEnv→Pen→PR D} {s:Pen} (S:DEnv→Prop) (item res:α→D) (p:α→Bool):∀(l:List α) (env:DEnv),S env →
  (∀x∈l,∀env,S env→∃env1,g (item x) env=some env1∧S env1∧t env1 s=.ok (p x) s∧(p x=true→e env1 s=.ok (res x) s))→bB g t e (l.map item) env s=.ok ((l.filter p).map res) s
 | [],env,hS,body=>rfl
 | x::l,env,hS,body=>by
  obtain ⟨env1,e1,hS1,e2,e3⟩:=body x (by simp) env hS
  have ih:=gO S item res p l env1 hS1 fun y hy=>body y (List.mem_cons_of_mem _ hy)
  rw[List.map_cons,bB,e1]
  dsimp only
  rw[e2]
  cases hp:p x with
  | true=>simp only[PR.bind_ok,if_true,e3 hp,ih,List.filter_cons_of_pos hp,List.map_cons]
  | false=>simp only[PR.bind_ok,Bool.false_eq_true,if_false,ih,List.filter_cons_of_neg (show ¬p x=true by simp[hp])]
theorem dm {α:Type} {ws ws':List Nat} {env:DEnv} {s s0:Pen} {fm:List Nat} {i:Xi ws} {t:Xt ws'} {e:Xe ws'} {l:List α} (item res:α→D) (p:α→Bool) (ei:i.p env s0=.ok (l.map item) s) (hl:l.length≤100000)
  (body:∀x∈l,t.p (some (item x)::fm.map fun i=>(env[i]?).getD none) s=.ok (p x) s∧(p x=true→e.p (some (item x)::fm.map fun i=>(env[i]?).getD none) s=.ok (res x) s)) (h0:ws'.contains 0=false:=by exact ys rfl) (hw:cws 1 fm ws=ws':=by exact ys rfl) (hz:e.fz=true:=by exact ys rfl) :
  (aP 1 fm i (xNm 0 h0) t e hw hz).p env s0=.ok (.lst ((l.filter p).map res)) s:=by
 rw[eL,ei,PR.bind_ok,if_pos (by simpa using hl)]
 have:=gO (g:=(xNm 0 h0:Xg ws').p) (t:=t.p) (e:=e.p) (s:=s) (fun v=>∃z,v=z::fm.map fun i=>(env[i]?).getD none) item res p l (cenv 1 fm env) ⟨none,rfl⟩ fun x hx env' ⟨z,hz⟩=>by
  subst hz
  exact ⟨_,rfl,⟨some (item x),rfl⟩,body x hx⟩
 rw[this]
theorem eW {α:Type} {ws ws':List Nat} {env:DEnv} {s s0:Pen} {fm:List Nat} {i:Xi ws} {t:Xt ws'} {e:Xe ws'} {l:List α} (A B:α→D) (res:α→D) (p:α→Bool) (ei:i.p env s0=.ok (l.map fun x=>.tup [A x,B x]) s) (hl:l.length≤100000)
  (body:∀x∈l,t.p (some (A x)::some (B x)::fm.map fun i=>(env[i]?).getD none) s=.ok (p x) s∧(p x=true→e.p (some (A x)::some (B x)::fm.map fun i=>(env[i]?).getD none) s=.ok (res x) s)) (h0:ws'.contains 0=false:=by exact ys rfl) (h1:ws'.contains 1=false:=by exact ys rfl) (hw:cws 2 fm ws=ws':=by exact ys rfl) (hz:e.fz=true:=by exact ys rfl) :
  (aP 2 fm i (xGp (xGc (xNm 0 h0) (xGc (xNm 1 h1) xGl)) 2) t e hw hz).p env s0=.ok (.lst ((l.filter p).map res)) s:=by
 rw[eL,ei,PR.bind_ok,if_pos (by simpa using hl)]
 have:=gO (g:=(xGp (xGc (xNm 0 h0) (xGc (xNm 1 h1) xGl)) 2:Xg ws').p) (t:=t.p) (e:=e.p) (s:=s) (fun v=>∃y z,v=y::z::fm.map fun i=>(env[i]?).getD none) (fun x=>.tup [A x,B x]) res p l (cenv 2 fm env) ⟨none,none,rfl⟩ fun x hx env' ⟨y,z,hz⟩=>by
  subst hz
  exact ⟨_,rfl,⟨some (A x),some (B x),rfl⟩,body x hx⟩
 rw[this]
theorem qU (bs:List Bool):blsD (bs.map .bl)=some bs:=by
 induction bs with
 | nil=>rfl
 | cons b bs ih=>rw[List.map_cons,blsD,ih];rfl
theorem gn (bs:List Bool):cAll.p [.lst (bs.map .bl)]=some (.bl (bs.all id)):=by
 show (((D.lst (bs.map .bl)).items).bind blsD).map _=_
 show ((some (bs.map D.bl)).bind blsD).map _=_
 rw[Option.bind_some,qU];rfl
theorem q0:qD 0=.tup [.int 0,.int 1]:=rfl
theorem q1:qD 1=.tup [.int 1,.int 1]:=rfl
@[simp] theorem iA {ws:List Nat} {i j:Int} {env:DEnv} {s:Pen}:(xCT i j:Xe ws).p env s=.ok (.tup [.int i,.int j]) s:=rfl
@[simp] theorem xDg_p {ws:List Nat} {a:Xe ws} {as:Xs ws} {env:DEnv} {s:Pen}:(xDg a as).p env s=(a.p env s).bind fun x s1=>match dgD x with
  | some kvs=>(as.p env s1).bind fun y s2=>match y with
   | [.int i,d]=>.ok (atD kvs i d) s2
   | _=>.bad
  | none=>.bad:=rfl
def coef (ps:List Pt) (j:Nat):Rat:=((ps.find? fun p=>p.1 == j).map (·.2)).getD 0
def mx (rs:List Rw) (ms:List Rat) (j:Nat):List (Rat × Rat):=(rs.zip ms).map fun p=>(coef p.1.1 j,p.2)
def rg (rs:List Rw) (ms:List Rat):List (Rat × Rat):=(rs.zip ms).map fun p=>(p.1.2,p.2)
structure RowOk (n:Nat) (r:Rw):Prop where
 nd:(r.1.map (·.1)).Nodup
 lt:∀p∈r.1,p.1<n
theorem rG (ps:List Pt):fU (ps.map ptD)=some (ps.map fun p=>((p.1:Int),qD p.2)):=by
 induction ps with
 | nil=>rfl
 | cons p ps ih=>rw[List.map_cons,fU,ih];rfl
theorem dg_pt {ps:List Pt} (nd:(ps.map (·.1)).Nodup):dgD (.tup (ps.map ptD))=some (ps.map fun p=>((p.1:Int),qD p.2)):=by
 simp only[dgD,rG]
 rw[if_pos]
 rw[List.map_map]
 have:((·.1)∘fun p:Pt=>((p.1:Int),qD p.2))=(fun n:Nat=>(n:Int))∘(·.1):=rfl
 rw[this,←List.map_map]
 exact List.pairwise_map.mpr (List.Pairwise.imp (fun h e=>h (Int.ofNat_inj.mp e)) nd)
theorem at_pt (ps:List Pt) (j:Nat):atD (ps.map fun p=>((p.1:Int),qD p.2)) (j:Int) (.tup [.int 0,.int 1])=qD (coef ps j):=by
 induction ps with
 | nil=>rfl
 | cons p ps ih =>
  unfold atD coef at *
  rw[List.map_cons,List.find?_cons,List.find?_cons]
  by_cases z:p.1=j
  ·simp[z]
  ·have z1:¬((p.1:Int)=(j:Int)):=by omega
   have z2:(p.1 == j)=false:=by simpa using z
   simp only[decide_eq_false z1,z2]
   exact ih
theorem jP {α β:Type} (f:α→D) (g:β→D) (xs:List α) (ys:List β):zipD (xs.map f) (ys.map g)=(xs.zip ys).map fun p=>.tup [f p.1,g p.2]:=by
 unfold zipD
 rw[List.zip_map,List.map_map];rfl
theorem mP {α β:Type} {xs:List α} {ys:List β} {m:Nat} (h:xs.length≤m):(xs.zip ys).length≤m:=by
 rw[List.length_zip];omega
theorem dl {rs:List Rw} {ms:List Rat} {j:Nat} {s:Pen} (hl:rs.length≤1000) (h:∀r∈rs,(r.1.map (·.1)).Nodup):cj.p [rsD rs,lD ms,.int (j:Int)] s=.ok (.lst ((mx rs ms j).map prD)) s:=by
 rw[mE (by rfl)];unfold gk
 rw[show dSt 3 [rsD rs,lD ms,.int (j:Int)]=[some (rsD rs),some (lD ms),some (.int (j:Int))] from rfl,bH,eW (l:=rs.zip ms) (fun p=>rwD p.1) (fun p=>qD p.2) (fun p=>prD (coef p.1.1 j,p.2)) (fun _=>true) (s:=s) (by
   simp only[cu,aj,am,aq,PR.bind_ok,ar,iZ_ll,PR.of_some,jP]) (by have:=mP (ys:=ms) hl;omega) (fun p hp=>by
   refine ⟨rfl,fun _=>?_⟩
   show (xTup _:Xe []).p [some (rwD p.1),some (qD p.2),some (.int (j:Int))] s=_
   simp only[aU,aj,xDg_p,aB,am,aq,PR.bind_ok,xC_p,aD,bO,z0,PR.of_some,dg_pt (h p.1 (List.of_mem_zip hp).1),iA,ar,at_pt,List.length_cons,List.length_nil,show (0+1+1:Nat)≤100000 by decide,if_true])]
 rw[bx]
 unfold mx
 rw[List.map_map]
 simp only[PR.go_ok,PU.bv];rfl
theorem fh {α:Type} (l:List α) (f:α→Bool):(l.map fun x=>D.bl (f x))=(l.map f).map .bl:=by rw[List.map_map];rfl
theorem cI {α:Type} (l:List α) (f:α→Bool):(l.map f).all id=l.all f:=by rw[List.all_map];rfl
def fit (xs:List Rat) (r:Rw):Bool:=decide (dot (prs r.1 xs)=r.2)
def fit0 (xs:List Rat) (r:Rw):Bool:=decide (dot (prs r.1 xs)=0)
structure FitOk (xs:List Rat) (r:Rw):Prop where
 len:r.1.length≤1000
 lt:∀p∈r.1,p.1<xs.length
 tot:tot (prs r.1 xs)≤1800
 rt:sz r.2≤1900
theorem fJ {rs:List Rw} {xs:List Rat} {s:Pen} (hl:rs.length≤1000) (h:∀r∈rs,FitOk xs r):cA.p [rsD rs,lD xs] s=.ok (.bl (rs.all (fit xs))) s:=by
 rw[lW (by rfl)];unfold fG
 rw[show dSt 2 [rsD rs,lD xs]=[some (rsD rs),some (lD xs)] from rfl,bH,bK,aj,eW (l:=rs) (fun r=>.tup (r.1.map ptD)) (fun r=>qD r.2) (fun r=>.bl (fit xs r)) (fun _=>true) (s:=s) (by rfl) (by omega) (fun r hr=>by
   obtain ⟨h1,h2,h3,h4⟩:=h r hr
   refine ⟨rfl,fun _=>?_⟩
   show (ai bf _:Xe []).p [some (.tup (r.1.map ptD)),some (qD r.2),some (lD xs)] s=_
   simp only[aA,aj,am,aq,PR.bind_ok,ar,hJ h1 h2,d8 (show tot (prs r.1 xs)≤1900 by omega) h4];rfl)]
 rw[bx,fh]
 simp only[PR.bind_ok,ar,gn,cI,PR.of_some,PR.go_ok,PU.bv]
theorem kT {rs:List Rw} {xs:List Rat} {s:Pen} (hl:rs.length≤1000) (h:∀r∈rs,FitOk xs r):dL.p [rsD rs,lD xs] s=.ok (.bl (rs.all (fit0 xs))) s:=by
 rw[qo (by rfl)];unfold i5
 rw[show dSt 2 [rsD rs,lD xs]=[some (rsD rs),some (lD xs)] from rfl,bH,bK,aj,eW (l:=rs) (fun r=>.tup (r.1.map ptD)) (fun r=>qD r.2) (fun r=>.bl (fit0 xs r)) (fun _=>true) (s:=s) (by rfl) (by omega) (fun r hr=>by
   obtain ⟨h1,h2,h3,h4⟩:=h r hr
   refine ⟨rfl,fun _=>?_⟩
   show (ai bf _:Xe []).p [some (.tup (r.1.map ptD)),some (qD r.2),some (lD xs)] s=_
   have c:=d8 (l:=prs r.1 xs) (w:=0) (s:=s) (show tot (prs r.1 xs)≤1900 by omega) (by rw[sz0];decide)
   rw[q0] at c
   simp only[aA,aj,am,aq,PR.bind_ok,ar,hJ h1 h2,iA,c];rfl)]
 rw[bx,fh]
 simp only[PR.bind_ok,ar,gn,cI,PR.of_some,PR.go_ok,PU.bv]
def at0 (rs:List Rw) (ms:List Rat) (j:Nat):Bool:=decide (dot (mx rs ms j)=0)
theorem fO (n:Nat):rngD 0 n=(List.range n).map fun (j:Nat)=>D.int (j:Int):=by simp[rngD]
structure MixOk (n:Nat) (rs:List Rw) (ms:List Rat):Prop where
 len:rs.length≤1000
 ok:∀r∈rs,RowOk n r
 tm:∀j,tot (mx rs ms j)≤1800
 tr:tot (rg rs ms)≤1800
theorem oi {n:Nat} {rs:List Rw} {ms:List Rat} {j:Nat} {s:Pen} (h:MixOk n rs ms) (w:Rat) (hw:sz w=1):(cj.p [rsD rs,lD ms,.int (j:Int)] s).bind (fun x s1=>bf.p [x,qD w] s1)=.ok (.bl (decide (dot (mx rs ms j)=w))) s:=by
 rw[dl h.len fun r hr=>(h.ok r hr).nd,PR.bind_ok]
 have:=h.tm j
 exact d8 (by omega) (by omega)
theorem gw {n:Nat} {rs:List Rw} {ms:List Rat} {s:Pen} (hn:n≤1000) (h:MixOk n rs ms):cE.p [.int (n:Int),rsD rs,lD ms] s=.ok (.bl (decide (dot (rg rs ms)=1) && (List.range n).all (at0 rs ms))) s:=by
 rw[pZ (by rfl)];unfold iW
 rw[show dSt 4 [D.int (n:Int),rsD rs,lD ms]=[some (.int (n:Int)),some (rsD rs),some (lD ms),none] from rfl,aF,aR,eW (l:=rs.zip ms) (fun p=>rwD p.1) (fun p=>qD p.2) (fun p=>prD (p.1.2,p.2)) (fun _=>true) (s:=s) (by
   simp only[cu,aj,am,aq,PR.bind_ok,ar,iZ_ll,PR.of_some,jP]) (by have:=mP (ys:=ms) h.len;omega) (fun p hp=>by
   refine ⟨rfl,fun _=>?_⟩
   show (xTup _:Xe []).p [some (rwD p.1),some (qD p.2)] s=_
   simp only[aU,aj,aB,am,aq,PR.bind_ok,xC_p,aD,bO,z1,PR.of_some,ar,List.length_cons,List.length_nil,show (0+1+1:Nat)≤100000 by decide,if_true])]
 rw[bx,show ((rs.zip ms).map fun p=>prD (p.1.2,p.2))=(rg rs ms).map prD by unfold rg;rw[List.map_map];rfl]
 simp only[PR.go_ok,List.set_cons_succ,List.set_cons_zero,PU.aw]
 have c:=d8 (l:=rg rs ms) (w:=1) (s:=s) (by have:=h.tr;omega) (by rw[sz1];decide)
 rw[q1] at c
 have q:=dm (ws:=[]) (ws':=[]) (fm:=[1,2]) (env:=[some (.int (n:Int)),some (rsD rs),some (lD ms),some (.lst ((rg rs ms).map prD))]) (i:=xItA iR1 (ab (xVar 0) xNil)) (t:=xTrue) (e:=ai bf (ab (ai cj (ab (xVar 1) (ab (xVar 2) (ab (xVar 0) xNil)))) (ab (xCT 0 1) xNil))) (s0:=s)
  (l:=List.range n) (fun (j:Nat)=>D.int (j:Int)) (fun j=>.bl (at0 rs ms j)) (fun _=>true) (s:=s) (by
   simp only[cu,aj,am,PR.bind_ok,ar]
   rw[dQ (by omega),Int.toNat_natCast,fO];rfl) (by simp;omega) (fun j hj=>by
   refine ⟨rfl,fun _=>?_⟩
   show (ai bf _:Xe []).p [some (.int (j:Int)),some (rsD rs),some (lD ms)] s=_
   have:=oi (j:=j) (s:=s) h 0 sz0
   rw[q0] at this
   simp only[aA,aj,am,aq,PR.bind_ok,ar,iA]
   rw[dl h.len fun r hr=>(h.ok r hr).nd] at this ⊢
   exact this)
 rw[bx,fh] at q
 simp only[bH,ip,aA,aj,am,aq,PR.bind_ok,ar,iA,c,PR.bl]
 cases decide (dot (rg rs ms)=1) with
 | false=>rfl
 | true =>
  simp only[if_true,bK,aj]
  rw[q]
  simp only[PR.bind_ok,ar,gn,cI,PR.of_some,PR.go_ok,PU.bv,Bool.true_and]
def rest (n:Nat) (free:List Nat) (place:Nat):List Nat:=(List.range n).filter fun j=>!decide (j=place) && !decide (j∈free)
theorem holds_p {n place:Nat} {free:List Nat} {rs:List Rw} {ms:List Rat} {s:Pen} (hn:n≤1000) (h:MixOk n rs ms) :
  ie.p [.int (n:Int),rsD rs,.lst (free.map fun (j:Nat)=>D.int (j:Int)),.int (place:Int),lD ms] s=.ok (.bl ((rest n free place).all (at0 rs ms) && decide (dot (mx rs ms place)=1))) s:=by
 rw[rB (by rfl)];unfold jT
 have hin:∀j:Nat,inD true (.int (j:Int)) (.lst (free.map fun (j:Nat)=>D.int (j:Int)))=some (.bl (!decide (j∈free))):=fun j=>by
  have e:(free.map fun (j:Nat)=>D.int (j:Int))=(free.map fun (j:Nat)=>(j:Int)).map D.int:=by rw[List.map_map];rfl
  have:=qa (neg:=true) (x:=(j:Int)) (d:=.lst (free.map fun (j:Nat)=>D.int (j:Int))) (xs:=free.map fun (j:Nat)=>(j:Int)) (by rw[e];rfl)
  rw[this]
  have e2:decide ((j:Int)∈free.map fun (j:Nat)=>(j:Int))=decide (j∈free):=decide_eq_decide.mpr ⟨fun h=>by
   obtain ⟨k,hk,e⟩:=List.mem_map.mp h
   rwa [show j=k by omega],fun h=>List.mem_map.mpr ⟨j,h,rfl⟩⟩
  rw[e2];rfl
 rw[show dSt 6 [D.int (n:Int),rsD rs,.lst (free.map fun (j:Nat)=>D.int (j:Int)),.int (place:Int),lD ms]=[some (.int (n:Int)),some (rsD rs),some (.lst (free.map fun (j:Nat)=>D.int (j:Int))),some (.int (place:Int)),some (lD ms),none] from rfl,aF,aR,dm (l:=List.range n) (fun (j:Nat)=>D.int (j:Int)) (fun (j:Nat)=>D.int (j:Int)) (fun j=>!decide (j=place) && !decide (j∈free)) (s:=s) (by
   simp only[cu,aj,am,PR.bind_ok,ar]
   rw[dQ (by omega),Int.toNat_natCast,fO];rfl) (by simp;omega) (fun j hj=>by
   refine ⟨?_,fun _=>rfl⟩
   show (xAnd _ _:Xt []).p [some (.int (j:Int)),some (.int (place:Int)),some (.lst (free.map fun (j:Nat)=>D.int (j:Int)))] s=_
   have e:decide ((j:Int)=(place:Int))=decide (j=place):=decide_eq_decide.mpr (by omega)
   simp only[fM,xB_p,aB,am,aq,PR.bind_ok,eD,bR,if_true,PR.of_some,PR.bl,iz,hin,e]
   cases decide (j=place) <;> rfl)]
 simp only[PR.go_ok,List.set_cons_succ,List.set_cons_zero,PU.aw]
 rw[aF,cL,jE,xB_p,bK,aj,dm (l:=rest n free place) (fun (j:Nat)=>D.int (j:Int)) (fun j=>.bl (at0 rs ms j)) (fun _=>true) (s:=s) (by rfl) (by
   have:(rest n free place).length≤n:=by unfold rest;have:=List.length_filter_le (fun j=>!decide (j=place) && !decide (j∈free)) (List.range n);simpa using this
   omega) (fun j hj=>by
   refine ⟨rfl,fun _=>?_⟩
   show (ai bf _:Xe []).p [some (.int (j:Int)),some (rsD rs),some (lD ms)] s=_
   have:=oi (j:=j) (s:=s) h 0 sz0
   rw[q0] at this
   simp only[aA,aj,am,aq,PR.bind_ok,ar,iA]
   rw[dl h.len fun r hr=>(h.ok r hr).nd] at this ⊢
   exact this)]
 rw[bx,fh]
 have c:=oi (j:=place) (s:=s) h 1 sz1
 rw[dl h.len fun r hr=>(h.ok r hr).nd,PR.bind_ok,q1] at c
 simp only[PR.bind_ok,ar,gn,cI,PR.of_some,PR.bl,PR.go_ok]
 cases (rest n free place).all (at0 rs ms) with
 | false=>rfl
 | true =>
  simp only[Bool.not_true,Bool.false_eq_true,if_false,cy,PU.aw,bH,aA,aj,am,aq,PR.bind_ok,ar,dl h.len fun r hr=>(h.ok r hr).nd,iA,c,PR.go_ok,PU.bv,Bool.true_and]
theorem gy {g:D→DEnv→Option DEnv} {t:DEnv→Pen→PR Bool} {e:DEnv→Pen→PR D} (S:DEnv→Prop) (P:D→Prop):∀(ds:List D) (env:DEnv) (s:Pen),S env →
  (∀x∈ds,∀env s,S env→∃env1,g x env=some env1∧S env1∧∃b s1,t env1 s=.ok b s1∧(b=true→∃y s2,e env1 s1=.ok y s2∧P y))→∃r s',bB g t e ds env s=.ok r s'∧r.length≤ds.length∧∀y∈r,P y
 | [],env,s,hS,body=>⟨[],s,rfl,by simp,by simp⟩
 | x::ds,env,s,hS,body=>by
  obtain ⟨env1,e1,hS1,b,s1,e2,e3⟩:=body x (by simp) env s hS
  have rest:=fun y hy=>body y (List.mem_cons_of_mem x hy)
  rw[bB,e1]
  dsimp only
  rw[e2,PR.bind_ok]
  cases b with
  | true =>
   obtain ⟨y,s2,e4,py⟩:=e3 rfl
   obtain ⟨r,s3,e5,hl,hr⟩:=gy S P ds env1 s2 hS1 rest
   refine ⟨y::r,s3,by simp only[if_true,e4,PR.bind_ok,e5],by simp;omega,fun z hz=>?_⟩
   rcases List.mem_cons.mp hz with rfl|hz
   ·exact py
   ·exact hr z hz
  | false =>
   obtain ⟨r,s3,e5,hl,hr⟩:=gy S P ds env1 s1 hS1 rest
   exact ⟨r,s3,by simp only[Bool.false_eq_true,if_false,e5],by simp;omega,hr⟩
theorem oQ {ws ws':List Nat} {env:DEnv} {s s0:Pen} {fm:List Nat} {i:Xi ws} {t:Xt ws'} {e:Xe ws'} {ds:List D} (P:D→Prop) (ei:i.p env s=.ok ds s0) (hl:ds.length≤100000)
  (body:∀x∈ds,∀s,∃b s1,t.p (some x::fm.map fun i=>(env[i]?).getD none) s=.ok b s1∧(b=true→∃y s2,e.p (some x::fm.map fun i=>(env[i]?).getD none) s1=.ok y s2∧P y)) (h0:ws'.contains 0=false:=by exact ys rfl) (hw:cws 1 fm ws=ws':=by exact ys rfl) (hz:e.fz=true:=by exact ys rfl) :
  ∃r s',(aP 1 fm i (xNm 0 h0) t e hw hz).p env s=.ok (.lst r) s'∧r.length≤ds.length∧∀y∈r,P y:=by
 obtain ⟨r,s',e1,h1,h2⟩:=gy (g:=(xNm 0 h0:Xg ws').p) (t:=t.p) (e:=e.p) (fun v=>∃z,v=z::fm.map fun i=>(env[i]?).getD none) P ds (cenv 1 fm env) s0 ⟨none,rfl⟩ fun x hx env' s ⟨z,hz⟩=>by
  subst hz
  obtain ⟨b,s1,e2,e3⟩:=body x hx s
  exact ⟨_,rfl,⟨some x,rfl⟩,b,s1,e2,e3⟩
 refine ⟨r,s',?_,h1,h2⟩
 rw[eL,ei,PR.bind_ok,if_pos hl,e1]
theorem cX {lo:Int} {c:Nat}:(rngD lo c).length=c:=by simp[rngD]
theorem qL {lo:Int} {c:Nat} {x:D} (h:x∈rngD lo c):∃i:Int,x=.int i∧lo≤i∧i<lo+c:=by
 unfold rngD at h
 obtain ⟨k,hk,rfl⟩:=List.mem_map.mp h
 rw[List.mem_range] at hk
 exact ⟨_,rfl,by omega,by omega⟩
theorem rj {c i:Nat} {x:D} (h:(rngD 0 c)[i]?=some x):x=.int (i:Int)∧i<c:=by
 unfold rngD at h
 rw[List.getElem?_map,Option.map_eq_some_iff] at h
 obtain ⟨k,hk,rfl⟩:=h
 obtain ⟨a,b⟩:=List.getElem?_eq_some_iff.mp hk
 simp at a b
 subst b
 exact ⟨by simp,a⟩
theorem oW {g:D→DEnv→Option DEnv} {t:DEnv→Pen→PR Bool} {e:DEnv→Pen→PR D} (S:DEnv→Prop) (P:D→Prop):∀(ds:List D) (env:DEnv) (s:Pen),S env →
  (∀x∈ds,∀env s,S env→∃env1,g x env=some env1∧S env1∧t env1 s=.ok true s∧∃y s2,e env1 s=.ok y s2∧P y)→∃r s',bB g t e ds env s=.ok r s'∧r.length=ds.length∧∀y∈r,P y:=by
 intro ds
 induction ds with
 | nil=>intro env s hS body;exact ⟨[],s,rfl,rfl,by simp⟩
 | cons x ds ih =>
  intro env s hS body
  obtain ⟨env1,e1,hS1,e2,y,s2,e4,py⟩:=body x (by simp) env s hS
  obtain ⟨r,s3,e5,hl,hr⟩:=ih env1 s2 hS1 fun y hy=>body y (List.mem_cons_of_mem x hy)
  refine ⟨y::r,s3,?_,by simp[hl],fun z hz=>?_⟩
  ·rw[bB,e1]
   dsimp only
   rw[e2,PR.bind_ok]
   simp only[if_true,e4,PR.bind_ok,e5]
  ·rcases List.mem_cons.mp hz with rfl|hz
   ·exact py
   ·exact hr z hz
theorem gK {ws ws':List Nat} {env:DEnv} {s s0:Pen} {fm:List Nat} {i:Xi ws} {e:Xe ws'} {ds:List D} (P:D→Prop) (ei:i.p env s=.ok ds s0) (hl:ds.length≤100000)
  (body:∀x∈ds,∀s,∃y s2,e.p (some x::fm.map fun i=>(env[i]?).getD none) s=.ok y s2∧P y) (h0:ws'.contains 0=false:=by exact ys rfl) (hw:cws 1 fm ws=ws':=by exact ys rfl) (hz:e.fz=true:=by exact ys rfl) :
  ∃r s',(aP 1 fm i (xNm 0 h0) xTrue e hw hz).p env s=.ok (.lst r) s'∧r.length=ds.length∧∀y∈r,P y:=by
 obtain ⟨r,s',e1,h1,h2⟩:=oW (g:=(xNm 0 h0:Xg ws').p) (t:=(xTrue:Xt ws').p) (e:=e.p) (fun v=>∃z,v=z::fm.map fun i=>(env[i]?).getD none) P ds (cenv 1 fm env) s0 ⟨none,rfl⟩ fun x hx env' s ⟨z,hz⟩=>by
  subst hz
  obtain ⟨y,s1,e2,e3⟩:=body x hx s
  exact ⟨_,rfl,⟨some x,rfl⟩,rfl,y,s1,e2,e3⟩
 refine ⟨r,s',?_,h1,h2⟩
 rw[eL,ei,PR.bind_ok,if_pos hl,e1]
theorem jt {α:Type} {f:α→D} {Q:α→Prop}:∀{ys:List D},(∀y∈ys,∃p,y=f p∧Q p)→∃ps:List α,ys=ps.map f∧∀p∈ps,Q p:=by
 intro ys
 induction ys with
 | nil=>intro _;exact ⟨[],rfl,by simp⟩
 | cons y ys ih =>
  intro h
  obtain ⟨ps,e,hp⟩:=ih fun y hy=>h y (List.mem_cons_of_mem _ hy)
  obtain ⟨p,rfl,h1⟩:=h y (by simp)
  refine ⟨p::ps,by rw[e];rfl,fun k hk=>?_⟩
  rcases List.mem_cons.mp hk with rfl|hk
  ·exact h1
  ·exact hp k hk
def cQ (f:List Rat) (i:Nat) (q:Rat):List Rat:=f.set i (f.getD i 0+q)
def inner (f:List Rat) (ps:List Pt) (m:Rat):List Rat:=ps.foldl (fun f p=>cQ f p.1 (p.2 * m)) f
def aZ (n:Nat) (f:List Rat) (p:Rw × Rat):List Rat:=cQ (inner f p.1.1 p.2) n (p.1.2 * p.2)
def tog (n:Nat) (rs:List Rw) (ms:List Rat):List Rat:=(rs.zip ms).foldl (aZ n) (List.replicate (n+1) 0)
theorem fy {f:List Rat} {i:Nat} {q:Rat}:(cQ f i q).length=f.length:=by simp[cQ]
theorem fD {m:Rat}:∀{ps:List Pt} {f:List Rat},(inner f ps m).length=f.length
 | [],_=>rfl
 | p::ps,f=>(fD (ps:=ps) (f:=cQ f p.1 (p.2 * m))).trans fy
theorem jw {f:List Rat} {i:Nat} {q:Rat} (h:i<f.length):(cQ f i q).getD i 0=f.getD i 0+q:=by
 simp[cQ,List.getD_eq_getElem?_getD,h]
theorem gc {f:List Rat} {i j:Nat} {q:Rat} (h:i≠j):(cQ f i q).getD j 0=f.getD j 0:=by
 simp only[cQ,List.getD_eq_getElem?_getD];rw[List.getElem?_set_ne h]
theorem ft {p:Pt} {ps:List Pt} {j:Nat}:coef (p::ps) j=if p.1=j then p.2 else coef ps j:=by
 unfold coef
 rw[List.find?_cons]
 by_cases z:p.1=j
 ·simp[z]
 ·rw[if_neg z,show (p.1 == j)=false by simpa using z]
theorem fx {ps:List Pt} {j:Nat} (h:j∉ps.map (·.1)):coef ps j=0:=by
 induction ps with
 | nil=>rfl
 | cons p ps ih =>
  rw[ft,if_neg fun z=>h (by simp[z]),ih fun z=>h (by simp only[List.map_cons,List.mem_cons];exact .inr z)]
theorem eP {m:Rat} {j:Nat}:∀{ps:List Pt} {f:List Rat},(ps.map (·.1)).Nodup→(∀p∈ps,p.1<f.length)→(inner f ps m).getD j 0=f.getD j 0+coef ps j * m
 | [],f,_,_=>by show f.getD j 0=f.getD j 0+0 * m;grind
 | p::ps,f,nd,lt=>by
  rw[List.map_cons,List.nodup_cons] at nd
  have ih:=eP (m:=m) (j:=j) (ps:=ps) (f:=cQ f p.1 (p.2 * m)) nd.2 fun q hq=>by rw[fy];exact lt q (List.mem_cons_of_mem _ hq)
  show (inner (cQ f p.1 (p.2 * m)) ps m).getD j 0=_
  rw[ih,ft]
  by_cases z:p.1=j
  ·subst z
   rw[if_pos rfl,fx nd.1,jw (lt p (by simp))]
   grind
  ·rw[if_neg z,gc z]
theorem ir {n:Nat} {f:List Rat} {p:Rw × Rat}:(aZ n f p).length=f.length:=fy.trans fD
theorem row_at {n j:Nat} {f:List Rat} {p:Rw × Rat} (hf:f.length=n+1) (ok:RowOk n p.1) (hj:j<n):(aZ n f p).getD j 0=f.getD j 0+coef p.1.1 j * p.2:=by
 unfold aZ
 rw[gc (by omega),eP ok.nd fun q hq=>by have:=ok.lt q hq;omega]
theorem k7 {n:Nat} {f:List Rat} {p:Rw × Rat} (hf:f.length=n+1) (ok:RowOk n p.1):(aZ n f p).getD n 0=f.getD n 0+p.1.2 * p.2:=by
 unfold aZ
 rw[jw (by rw[fD];omega),eP ok.nd fun q hq=>by have:=ok.lt q hq;omega,fx fun z=>by
  obtain ⟨q,hq,e⟩:=List.mem_map.mp z
  have:=ok.lt q hq
  omega]
 grind
theorem nt {n j:Nat} (hj:j<n):∀(l:List (Rw × Rat)) (f:List Rat),f.length=n+1→(∀p∈l,RowOk n p.1)→(l.foldl (aZ n) f).getD j 0=dotF (f.getD j 0) (l.map fun p=>(coef p.1.1 j,p.2))
 | [],f,_,_=>rfl
 | p::l,f,hf,ok=>by
  show (l.foldl (aZ n) (aZ n f p)).getD j 0=dotF (f.getD j 0+coef p.1.1 j * p.2) _
  rw[nt hj l _ (ir.trans hf) fun q hq=>ok q (List.mem_cons_of_mem _ hq),row_at hf (ok p (by simp)) hj]
theorem j9 {n:Nat}:∀(l:List (Rw × Rat)) (f:List Rat),f.length=n+1→(∀p∈l,RowOk n p.1)→(l.foldl (aZ n) f).getD n 0=dotF (f.getD n 0) (l.map fun p=>(p.1.2,p.2))
 | [],f,_,_=>rfl
 | p::l,f,hf,ok=>by
  show (l.foldl (aZ n) (aZ n f p)).getD n 0=dotF (f.getD n 0+p.1.2 * p.2) _
  rw[j9 l _ (ir.trans hf) fun q hq=>ok q (List.mem_cons_of_mem _ hq),k7 hf (ok p (by simp))]
theorem iN {n:Nat}:∀(l:List (Rw × Rat)) (f:List Rat),(l.foldl (aZ n) f).length=f.length
 | [],f=>rfl
 | p::l,f=>(iN l (aZ n f p)).trans ir
theorem iB {n j:Nat}:(List.replicate n (0:Rat)).getD j 0=0:=by
 simp only[List.getD_eq_getElem?_getD,List.getElem?_replicate];split <;> rfl
theorem jk {n:Nat} {rs:List Rw} {ms:List Rat} (ok:∀r∈rs,RowOk n r):∀p∈rs.zip ms,RowOk n p.1:=fun p hp=>ok p.1 (List.of_mem_zip hp).1
theorem hX {n:Nat} {rs:List Rw} {ms:List Rat}:(tog n rs ms).length=n+1:=(iN _ _).trans (by simp)
theorem fL {n j:Nat} {rs:List Rw} {ms:List Rat} (ok:∀r∈rs,RowOk n r) (hj:j<n):(tog n rs ms).getD j 0=dot (mx rs ms j):=by
 unfold tog
 rw[nt hj _ _ (by simp) (jk ok),iB];rfl
theorem iY {n:Nat} {rs:List Rw} {ms:List Rat} (ok:∀r∈rs,RowOk n r):(tog n rs ms).getD n 0=dot (rg rs ms):=by
 unfold tog
 rw[j9 _ _ (by simp) (jk ok),iB];rfl
def cw (r:Rw) (m:Rat):Nat:=r.1.foldr (fun p c=>max (wt (p.2,m)) c) (wt (r.2,m))
theorem mK {m:Rat} {b c:Nat}:∀{ps:List Pt},(∀p∈ps,wt (p.2,m)≤c)→b≤c→ps.foldr (fun p c=>max (wt (p.2,m)) c) b≤c
 | [],_,hb=>hb
 | p::ps,h,hb=>Nat.max_le.mpr ⟨h p (by simp),mK (fun q hq=>h q (List.mem_cons_of_mem _ hq)) hb⟩
theorem jL {m:Rat} {b:Nat}:∀{ps:List Pt},(∀p∈ps,wt (p.2,m)≤ps.foldr (fun p c=>max (wt (p.2,m)) c) b)∧b≤ps.foldr (fun p c=>max (wt (p.2,m)) c) b
 | []=>⟨by simp,Nat.le_refl _⟩
 | p::ps=>by
  obtain ⟨h1,h2⟩:=jL (m:=m) (b:=b) (ps:=ps)
  refine ⟨fun q hq=>?_,Nat.le_trans h2 (Nat.le_max_right _ _)⟩
  rcases List.mem_cons.mp hq with rfl|hq
  ·exact Nat.le_max_left _ _
  ·exact Nat.le_trans (h1 q hq) (Nat.le_max_right _ _)
theorem nU {r:Rw} {m:Rat} {p:Pt} (h:p∈r.1):wt (p.2,m)≤cw r m:=jL.1 p h
theorem kH {r:Rw} {m:Rat}:wt (r.2,m)≤cw r m:=jL.2
theorem wt_zero {q m:Rat}:wt (0,m)≤wt (q,m):=by
 have:=pk q
 simp only[wt,sz0];omega
theorem jp {ps:List Pt} {j:Nat}:coef ps j=0∨∃p∈ps,coef ps j=p.2:=by
 induction ps with
 | nil=>exact .inl rfl
 | cons p ps ih =>
  rw[ft]
  by_cases z:p.1=j
  ·rw[if_pos z];exact .inr ⟨p,by simp,rfl⟩
  ·rw[if_neg z]
   rcases ih with h|⟨q,hq,h⟩
   ·exact .inl h
   ·exact .inr ⟨q,List.mem_cons_of_mem _ hq,h⟩
theorem wc_cw {r:Rw} {m:Rat} {j:Nat}:wt (coef r.1 j,m)≤cw r m:=by
 rcases jp (ps:=r.1) (j:=j) with h|⟨p,hp,h⟩
 ·rw[h];exact Nat.le_trans wt_zero kH
 ·rw[h];exact nU hp
def TW (l:List (Rw × Rat)):Nat:=(l.map fun p=>cw p.1 p.2).sum
theorem dD {p:Rw × Rat} {l:List (Rw × Rat)}:TW (p::l)=cw p.1 p.2+TW l:=by simp[TW]
theorem p4 {l m:List (Rw × Rat)}:TW (l++m)=TW l+TW m:=by simp[TW]
theorem lK {g:Rw × Rat→Rat × Rat}:∀{l:List (Rw × Rat)},(∀p∈l,wt (g p)≤cw p.1 p.2)→tot (l.map g)≤TW l
 | [],_=>by simp[tot,TW]
 | p::l,h=>by
  rw[List.map_cons,eV,dD]
  have:=h p (by simp)
  have:=lK (g:=g) (l:=l) fun q hq=>h q (List.mem_cons_of_mem _ hq)
  omega
theorem jA {n:Nat} {rs:List Rw} {ms:List Rat} (hl:rs.length≤1000) (ok:∀r∈rs,RowOk n r) (h:TW (rs.zip ms)≤1800):MixOk n rs ms :=
 ⟨hl,ok,fun j=>Nat.le_trans (lK fun p hp=>wc_cw) h,Nat.le_trans (lK fun p hp=>kH) h⟩
noncomputable abbrev tgB:Xd [3]:=xSub 3 (ai bn (ab (xBin oIx (xVar 3) (xVar 5)) (ab (ai b8 (ab (xVar 6) (ab (xBin oIx (xVar 2) (xVar 4)) xNil))) xNil))) (xVar 5)
noncomputable abbrev tgG:Xg [3]:=xGp (xGc (xNm 5) (xGc (xNm 6) xGl)) 2
theorem hV {f:List Rat} {i:Nat} {q:Rat}:(f.map qD).set i (qD q)=(f.set i q).map qD:=by rw[List.map_set]
theorem qB {f:List Rat} {i j:Nat} {q:Rat} (h:i≠j):(f.set i q).getD j 0=f.getD j 0:=by
 simp only[List.getD_eq_getElem?_getD];rw[List.getElem?_set_ne h]
theorem nJ {N R:Option D} {ms:List Rat} {k:Nat} {s:Pen} {B c:Nat} (hk:k<ms.length) (hB:B+c≤1900):∀(ps:List Pt) (f:List Rat) (x5 x6:Option D),(ps.map (·.1)).Nodup→(∀p∈ps,p.1<f.length)→(∀p∈ps,sz (f.getD p.1 0)≤B)→(∀p∈ps,wt (p.2,ms.getD k 0)≤c) →
  ∃x5' x6':Option D,pGo tgG.p tgB.p (ps.map ptD) [N,R,some (lD ms),some (lD f),some (.int (k:Int)),x5,x6] s=.nx [N,R,some (lD ms),some (lD (inner f ps (ms.getD k 0))),some (.int (k:Int)),x5',x6'] s
 | [],f,x5,x6,_,_,_,_=>⟨x5,x6,rfl⟩
 | p::ps,f,x5,x6,nd,lt,hs,hw=>by
  rw[List.map_cons,List.nodup_cons] at nd
  have w:wt (p.2,ms.getD k 0)=sz p.2+sz (ms.getD k 0)+1:=rfl
  have w1:=hw p (by simp)
  have w2:=hs p (by simp)
  have w3:=fS p.2 (ms.getD k 0)
  have lp:=lt p (by simp)
  obtain ⟨x5',x6',q⟩:=nJ (N:=N) (R:=R) (s:=s) hk hB ps (cQ f p.1 (p.2 * ms.getD k 0)) (some (.int (p.1:Int))) (some (qD p.2)) nd.2 (fun y hy=>by rw[fy];exact lt y (List.mem_cons_of_mem _ hy)) (fun y hy=>by
   have ne:p.1≠y.1:=fun z=>nd.1 (List.mem_map.mpr ⟨y,hy,z.symm⟩)
   rw[gc ne];exact hs y (List.mem_cons_of_mem _ hy)) fun y hy=>hw y (List.mem_cons_of_mem _ hy)
  refine ⟨x5',x6',?_⟩
  have t:=jK (p:=p.2) (q:=ms.getD k 0) (s:=s) (by omega)
  have u:=eX (p:=f.getD p.1 0) (q:=p.2 * ms.getD k 0) (s:=s) (by omega)
  have e1:tgB.p [N,R,some (lD ms),some (lD f),some (.int (k:Int)),some (.int (p.1:Int)),some (qD p.2)] s=.nx [N,R,some (lD ms),some (lD (cQ f p.1 (p.2 * ms.getD k 0))),some (.int (k:Int)),some (.int (p.1:Int)),some (qD p.2)] s:=by
   rw[dZ,cS (v:=qD (f.getD p.1 0+p.2 * ms.getD k 0)) (s1:=s) (j:=(p.1:Int)) (s2:=s) (ds:=f.map qD) (n:=p.1) (by
    simp only[aA,aj,am,aq,PR.bind_ok,aB,ca,at_q lp,at_q hk,PR.of_some,ar,t,u]) (by rfl) rfl (by rw[List.length_map];exact cP lp),hV]
   rfl
  rw[List.map_cons,f9 (env1:=[N,R,some (lD ms),some (lD f),some (.int (k:Int)),some (.int (p.1:Int)),some (qD p.2)]) (by rfl),e1]
  exact q
theorem qG {m:Rat} {B c:Nat}:∀{ps:List Pt} {f:List Rat},(ps.map (·.1)).Nodup→(∀p∈ps,p.1<f.length)→(∀j,sz (f.getD j 0)≤B)→(∀p∈ps,wt (p.2,m)≤c)→∀j,sz ((inner f ps m).getD j 0)≤B+c:=by
 intro ps f nd lt hB hw j
 rw[eP nd lt]
 rcases jp (ps:=ps) (j:=j) with h|⟨p,hp,h⟩
 ·rw[h]
  have e:f.getD j 0+0 * m=f.getD j 0:=by grind
  rw[e];have:=hB j;omega
 ·rw[h]
  have a:=d4 (f.getD j 0) (p.2 * m)
  have b:=fS p.2 m
  have d:=hw p hp
  have w:wt (p.2,m)=sz p.2+sz m+1:=rfl
  have:=hB j
  omega
theorem row_sz {n:Nat} {f:List Rat} {p:Rw × Rat} {B:Nat} (hf:f.length=n+1) (ok:RowOk n p.1) (hB:∀j,sz (f.getD j 0)≤B):∀j,sz ((aZ n f p).getD j 0)≤B+cw p.1 p.2:=by
 intro j
 by_cases z:j=n
 ·subst z
  rw[k7 hf ok]
  have a:=d4 (f.getD j 0) (p.1.2 * p.2)
  have b:=fS p.1.2 p.2
  have d:=kH (r:=p.1) (m:=p.2)
  have w:wt (p.1.2,p.2)=sz p.1.2+sz p.2+1:=rfl
  have:=hB j
  omega
 ·unfold aZ
  rw[gc (Ne.symm z)]
  exact qG ok.nd (fun q hq=>by have:=ok.lt q hq;omega) hB (fun q hq=>nU hq) j
theorem jX {n:Nat}:∀(l:List (Rw × Rat)) (f:List Rat) (B:Nat),f.length=n+1→(∀p∈l,RowOk n p.1)→(∀j,sz (f.getD j 0)≤B)→∀j,sz ((l.foldl (aZ n) f).getD j 0)≤B+TW l
 | [],f,B,_,_,hB=>by simpa [TW] using hB
 | p::l,f,B,hf,ok,hB=>by
  intro j
  have:=jX l (aZ n f p) (B+cw p.1 p.2) (ir.trans hf) (fun q hq=>ok q (List.mem_cons_of_mem _ hq)) (row_sz hf (ok p (by simp)) hB) j
  rw[dD]
  show sz ((l.foldl (aZ n) (aZ n f p)).getD j 0)≤_
  omega
theorem qm {n:Nat} {rs:List Rw} {ms:List Rat} (ok:∀r∈rs,RowOk n r) (j:Nat):sz ((tog n rs ms).getD j 0)≤1+TW (rs.zip ms) :=
 jX _ _ 1 (by simp) (jk ok) (fun j=>by rw[iB,sz0];exact Nat.le_refl _) j
theorem TW_take (l:List (Rw × Rat)) (k:Nat):TW (l.take k)≤TW l:=by
 have:TW l=TW (l.take k)+TW (l.drop k):=by rw[←p4,List.take_append_drop]
 omega
theorem at_r {rs:List Rw} {k:Nat} (h:k<rs.length):atI (rs.map rwD) (k:Int)=some (rwD rs[k]):=by
 refine L2.cH ?_
 rw[List.getElem?_map,List.getElem?_eq_getElem h];rfl
theorem qS {ms:List Rat} {k:Nat} (h:k<ms.length):ms.getD k 0=ms[k]:=by
 rw[List.getD_eq_getElem?_getD,List.getElem?_eq_getElem h];rfl
theorem kP {n:Nat} (hn:n≤1000):oMul.p (.lst [.tup [.int 0,.int 1]]) (.int (n:Int))=some (lD (List.replicate n 0)):=by
 have e:∀m:Nat,(List.replicate m [D.tup [.int 0,.int 1]]).flatten=(List.replicate m (0:Rat)).map qD:=fun m=>by
  induction m with
  | zero=>rfl
  | succ m ih=>rw[List.replicate_succ,List.flatten_cons,ih,List.replicate_succ,List.map_cons];rfl
 show (if (0≤(n:Int)∧(n:Int)≤1000)∧((List.replicate (n:Int).toNat [D.tup [.int 0,.int 1]]).flatten).length≤100000 then some (D.lst (List.replicate (n:Int).toNat [D.tup [.int 0,.int 1]]).flatten) else none)=_
 rw[Int.toNat_natCast,e,if_pos ⟨by omega,by simp;omega⟩]
noncomputable abbrev toB:Xd [3]:=(xSeq (xFor (xItS (xBin oIx (xBin oIx (xVar 1) (xVar 4)) (xC (.int 0)))) (xGp (xGc (xNm 5) (xGc (xNm 6) xGl)) 2) (xSub 3 (ai bn (ab (xBin oIx (xVar 3) (xVar 5)) (ab (ai b8 (ab (xVar 6) (ab (xBin oIx (xVar 2) (xVar 4)) xNil))) xNil))) (xVar 5)))
 (xSub 3 (ai bn (ab (xBin oIx (xVar 3) (xVar 0)) (ab (ai b8 (ab (xBin oIx (xBin oIx (xVar 1) (xVar 4)) (xC (.int 1))) (ab (xBin oIx (xVar 2) (xVar 4)) xNil))) xNil))) (xVar 0)))
theorem to_turn {n k:Nat} {rs:List Rw} {ms:List Rat} {f:List Rat} {x5 x6:Option D} {s:Pen} {B:Nat} (hk:k<rs.length) (hk':k<ms.length) (hf:f.length=n+1) (ok:RowOk n rs[k]) (hB:∀j,sz (f.getD j 0)≤B) (hc:B+cw rs[k] ms[k]≤1800) :
  ∃x5' x6':Option D,toB.p [some (.int (n:Int)),some (rsD rs),some (lD ms),some (lD f),some (.int (k:Int)),x5,x6] s=.nx [some (.int (n:Int)),some (rsD rs),some (lD ms),some (lD (aZ n f (rs[k],ms[k]))),some (.int (k:Int)),x5',x6'] s:=by
 have em:ms.getD k 0=ms[k]:=qS hk'
 obtain ⟨x5',x6',q⟩:=nJ (N:=some (.int (n:Int))) (R:=some (rsD rs)) (s:=s) hk' (B:=B) (c:=cw rs[k] ms[k]) (by omega) rs[k].1 f x5 x6 ok.nd (fun p hp=>by have:=ok.lt p hp;omega) (fun p hp=>hB p.1) fun p hp=>by rw[em];exact nU hp
 refine ⟨x5',x6',?_⟩
 have w:wt (rs[k].2,ms[k])=sz rs[k].2+sz ms[k]+1:=rfl
 have w1:=kH (r:=rs[k]) (m:=ms[k])
 have w3:=fS rs[k].2 ms[k]
 have w4:sz ((inner f rs[k].1 ms[k]).getD n 0)≤B:=by
  rw[eP ok.nd fun p hp=>by have:=ok.lt p hp;omega,fx fun z=>by
   obtain ⟨q,hq,e⟩:=List.mem_map.mp z
   have:=ok.lt q hq
   omega]
  have e:f.getD n 0+0 * ms[k]=f.getD n 0:=by grind
  rw[e];exact hB n
 have t:=jK (p:=rs[k].2) (q:=ms[k]) (s:=s) (by omega)
 have u:=eX (p:=(inner f rs[k].1 ms[k]).getD n 0) (q:=rs[k].2 * ms[k]) (s:=s) (by omega)
 rw[em] at q
 have lp:n<(inner f rs[k].1 ms[k]).length:=by rw[fD];omega
 have e2:=at_q hk'
 rw[em] at e2
 rw[aF,eS]
 simp only[eQ,aB,am,aq,PR.bind_ok,xC_p,aD,ca,at_r hk,PR.of_some,bO,z0,show (D.tup (rs[k].1.map ptD)).items=some (rs[k].1.map ptD) from rfl,PR.go_ok]
 refine (congrArg (fun z:PS=>z.then _) q).trans ?_
 rw[PU.aw,dZ,cS (v:=qD ((inner f rs[k].1 ms[k]).getD n 0+rs[k].2 * ms[k])) (s1:=s) (j:=(n:Int)) (s2:=s) (ds:=(inner f rs[k].1 ms[k]).map qD) (n:=n) (by
   simp only[aA,aj,am,aq,PR.bind_ok,aB,ca,bO,at_q lp,at_r hk,e2,xC_p,aD,z1,PR.of_some,ar,t,u]) (by rfl) rfl (by rw[List.length_map];exact cP lp),hV]
 rfl
theorem eE {n:Nat} {rs:List Rw} {ms:List Rat} {s:Pen} (hn:n≤100) (hl:rs.length≤1000) (he:rs.length=ms.length) (ok:∀r∈rs,RowOk n r) (hW:TW (rs.zip ms)≤1700):bE.p [.int (n:Int),rsD rs,lD ms] s=.ok (lD (tog n rs ms)) s:=by
 rw[kz (by rfl)];unfold eO
 rw[show dSt 7 [D.int (n:Int),rsD rs,lD ms]=[some (.int (n:Int)),some (rsD rs),some (lD ms),none,none,none,none] from rfl]
 obtain ⟨env',s',q,x4,x5,x6,rfl,rfl⟩:=fT (g:=(xNm 4:Xg [3]).p) (b:=toB.p)
  (fun j env s1=>∃x4 x5 x6,env=[some (.int (n:Int)),some (rsD rs),some (lD ms),some (lD (((rs.zip ms).take j).foldl (aZ n) (List.replicate (n+1) 0))),x4,x5,x6]∧s1=s) (rngD 0 rs.length) 0 [some (.int (n:Int)),some (rsD rs),some (lD ms),some (lD (List.replicate (n+1) 0)),none,none,none] s ⟨none,none,none,rfl,rfl⟩ (fun j env s1 d ⟨x4,x5,x6,hE,hs⟩ hd=>by
   subst hE hs
   rw[Nat.zero_add]
   obtain ⟨rfl,hj⟩:=rj hd
   have hj':j<ms.length:=by omega
   have hz:j<(rs.zip ms).length:=by rw[List.length_zip];omega
   have okr:=ok rs[j] (List.getElem_mem _)
   have hB:=jX ((rs.zip ms).take j) (List.replicate (n+1) 0) 1 (by simp) (fun p hp=>jk ok p (List.mem_of_mem_take hp)) (fun j=>by rw[iB,sz0];exact Nat.le_refl _)
   have e:(rs.zip ms).take (j+1)=(rs.zip ms).take j++[(rs[j],ms[j])]:=by rw[List.take_succ_eq_append_getElem hz,List.getElem_zip]
   have hc:1+TW ((rs.zip ms).take j)+cw rs[j] ms[j]≤1800:=by
    have:=TW_take (rs.zip ms) (j+1)
    rw[e,p4,dD] at this
    dsimp only at this
    omega
   obtain ⟨x5',x6',q⟩:=to_turn (s:=s1) hj hj' ((iN ((rs.zip ms).take j) (List.replicate (n+1) 0)).trans (by simp)) okr hB hc (x5:=x5) (x6:=x6)
   exact ⟨_,_,s1,rfl,q,_,_,_,by rw[e,List.foldl_append];rfl,rfl⟩)
 rw[Nat.zero_add,cX] at q
 have e0:oMul.p (.lst [.tup [.int 0,.int 1]]) (.int ((n:Int)+1))=some (lD (List.replicate (n+1) 0)):=by
  have:=kP (n:=n+1) (by omega)
  rwa [Int.natCast_add] at this
 simp only[aF,fW,aB,bF,aU,aj,xC_p,aD,ar,PR.bind_ok,List.length_cons,List.length_nil,show (0+1+1:Nat)≤100000 by decide,show (0+1:Nat)≤100000 by decide,if_true,am,eI,PR.of_some,e0,PR.go_ok,List.set_cons_succ,List.set_cons_zero,PU.aw,eS,cu,bK,aq,lR]
 rw[dQ (by rw[List.length_map];omega),List.length_map,Int.toNat_natCast,PR.of_some,PR.go_ok]
 refine (congrArg (fun z:PS=>(z.then _).fin) q).trans ?_
 rw[PU.aw,jU (d:=lD (tog n rs ms)) (by
  rw[List.take_of_length_le (by rw[List.length_zip];omega)];rfl),PU.bv]
def Nice (k:Nat) (d:D):Prop:=∃x,py d=some x∧dep d≤k∧x.canLay0=true∧x.depth≤k
theorem iP {i:Int} {k:Nat}:Nice k (.int i):=⟨.int i,rfl,by simp[dep],rfl,by simp[PyData.depth]⟩
theorem iO {k:Nat} {ds:List D} (h:∀d∈ds,Nice k d):∃xs,pys ds=some xs∧deps ds≤k∧PyData.canLayAll0 xs=true∧PyData.depthAll xs≤k:=by
 induction ds with
 | nil=>exact ⟨[],rfl,by simp[deps],rfl,by simp[PyData.depthAll]⟩
 | cons d ds ih =>
  obtain ⟨xs,a1,a2,a3,a4⟩:=ih fun d hd=>h d (List.mem_cons_of_mem _ hd)
  obtain ⟨x,b1,b2,b3,b4⟩:=h d (by simp)
  exact ⟨x::xs,by simp[pys,a1,b1],by simp only[deps];omega,by simp[PyData.canLayAll0,a3,b3],by simp only[PyData.depthAll];omega⟩
theorem fY {k:Nat} {ds:List D} (h:∀d∈ds,Nice k d):Nice (k+1) (.tup ds):=by
 obtain ⟨xs,a1,a2,a3,a4⟩:=iO h
 exact ⟨.tuple xs,by simp[py,a1],by simp only[dep];omega,by simpa [PyData.canLay0] using a3,by simp only[PyData.depth];omega⟩
theorem dC {k:Nat} {ds:List D} (h:∀d∈ds,Nice k d):Nice (k+1) (.lst ds):=by
 obtain ⟨xs,a1,a2,a3,a4⟩:=iO h
 exact ⟨.list xs,by simp[py,a1],by simp only[dep];omega,by simpa [PyData.canLay0] using a3,by simp only[PyData.depth];omega⟩
theorem qx {k:Nat} {t b:Int}:Nice (k+1) (nD t b):=fY fun d hd=>by
 simp only[List.mem_cons,List.not_mem_nil,or_false] at hd
 rcases hd with rfl|rfl <;> exact iP
theorem d3 {d:D} {neg:Bool} (h:Nice 60 d):eqD neg d d=some (.bl (!neg)):=by
 obtain ⟨x,a1,a2,a3,a4⟩:=h
 unfold eqD
 rw[a1]
 dsimp only
 rw[if_pos ⟨⟨a2,a2⟩,fu a3 (by omega),fu a3 (by omega)⟩,SeqAt.eqv_refl x a3]
 cases neg <;> rfl
def pq (q:Rat):PyData:=.tuple [.int q.num,.int (q.den:Int)]
theorem py_q (q:Rat):py (qD q)=some (pq q):=rfl
theorem pys_q (xs:List Rat):pys (xs.map qD)=some (xs.map pq):=by
 induction xs with
 | nil=>rfl
 | cons q xs ih=>rw[List.map_cons,pys,py_q,ih];rfl
theorem eqv_q (a b:Rat):PyData.eqv (pq a) (pq b)=decide (a=b):=by
 have e:=iE [a.num,(a.den:Int)] [b.num,(b.den:Int)]
 show PyData.eqvAll _ _=_
 refine e.trans (decide_eq_decide.mpr ⟨fun h=>?_,fun h=>by rw[h]⟩)
 injection h with h1 h2
 injection h2 with h2 _
 exact Rat.ext h1 (by omega)
theorem pU:∀(xs ys:List Rat),PyData.eqvAll (xs.map pq) (ys.map pq)=decide (xs=ys)
 | [],[]=>by simp[PyData.eqvAll]
 | [],_::_=>by simp[PyData.eqvAll]
 | _::_,[]=>by simp[PyData.eqvAll]
 | x::xs,y::ys=>by
  simp only[List.map_cons,PyData.eqvAll,eqv_q,pU xs ys]
  rw[←Bool.decide_and]
  exact decide_eq_decide.mpr (by simp)
theorem gI {k:Nat} {q:Rat}:Nice (k+1) (qD q):=qx
theorem dA {k:Nat} {xs:List Rat}:Nice (k+1+1) (lD xs):=dC fun d hd=>by
 obtain ⟨q,_,rfl⟩:=List.mem_map.mp hd
 exact gI
theorem i8 {neg:Bool} {a b:D} {x y:PyData} (ha:Nice 60 a) (hb:Nice 60 b) (e1:py a=some x) (e2:py b=some y):eqD neg a b=some (.bl (if neg then !PyData.eqv x y else PyData.eqv x y)):=by
 obtain ⟨x',a1,a2,a3,a4⟩:=ha
 obtain ⟨y',b1,b2,b3,b4⟩:=hb
 rw[e1] at a1;cases a1
 rw[e2] at b1;cases b1
 unfold eqD
 rw[e1,e2]
 dsimp only
 rw[if_pos ⟨⟨a2,b2⟩,fu a3 (by omega),fu b3 (by omega)⟩]
theorem nR {neg:Bool} {a b:Rat}:eqD neg (qD a) (qD b)=some (.bl (if neg then !decide (a=b) else decide (a=b))):=by
 rw[i8 (gI (k:=59)) (gI (k:=59)) (py_q a) (py_q b),eqv_q]
theorem py_qs (xs:List Rat):py (lD xs)=some (.list (xs.map pq)):=by rw[py,pys_q];rfl
theorem eqD_qs {neg:Bool} {xs ys:List Rat}:eqD neg (lD xs) (lD ys)=some (.bl (if neg then !decide (xs=ys) else decide (xs=ys))):=by
 rw[i8 (dA (k:=58)) (dA (k:=58)) (py_qs xs) (py_qs ys)]
 simp only[PyData.eqv,pU]
theorem nice_pt {k:Nat} {p:Pt}:Nice (k+1+1) (ptD p):=fY fun d hd=>by
 simp only[List.mem_cons,List.not_mem_nil,or_false] at hd
 rcases hd with rfl|rfl
 ·exact iP
 ·exact gI
theorem gA {k:Nat} {ps:List Pt}:Nice (k+1+1+1) (.tup (ps.map ptD)):=fY fun d hd=>by
 obtain ⟨p,_,rfl⟩:=List.mem_map.mp hd
 exact nice_pt
theorem nice_rw {k:Nat} {r:Rw}:Nice (k+1+1+1+1) (rwD r):=fY fun d hd=>by
 simp only[List.mem_cons,List.not_mem_nil,or_false] at hd
 rcases hd with rfl|rfl
 ·exact gA
 ·exact gI
theorem lE {k:Nat} {rs:List Rw}:Nice (k+1+1+1+1+1) (rsD rs):=dC fun d hd=>by
 obtain ⟨p,_,rfl⟩:=List.mem_map.mp hd
 exact nice_rw
theorem k5 {ds:List D} (h:Nice 60 (.lst ds)):eqD true (.lst ds) (.lst [])=some (.bl (!ds.isEmpty)):=by
 obtain ⟨x,a1,a2,a3,a4⟩:=h
 have h':Nice 60 (.lst ds):=⟨x,a1,a2,a3,a4⟩
 have hn:Nice 60 (.lst []):=dC (k:=59) (by simp)
 rw[i8 h' hn a1 (show py (.lst [])=some (.list []) from rfl)]
 cases ds with
 | nil=>cases a1;rfl
 | cons d ds =>
  rw[py,Option.map_eq_some_iff] at a1
  obtain ⟨xs,e,rfl⟩:=a1
  rw[pys] at e
  cases e1:py d with
  | none=>rw[e1] at e;cases e
  | some y =>
   cases e2:pys ds with
   | none=>rw[e1,e2] at e;cases e
   | some ys=>rw[e1,e2] at e;cases e;rfl
theorem o6 (bs:List Bool):pys (bs.map .bl)=some (bs.map .bool)∧deps (bs.map .bl)=0∧PyData.canLayAll0 (bs.map .bool)=true:=by
 induction bs with
 | nil=>exact ⟨rfl,rfl,rfl⟩
 | cons b bs ih =>
  obtain ⟨h1,h2,h3⟩:=ih
  refine ⟨?_,?_,?_⟩
  ·rw[List.map_cons,pys,h1];rfl
  ·rw[List.map_cons,deps,h2];rfl
  ·rw[List.map_cons,PyData.canLayAll0,h3];rfl
theorem iU (bs:List Bool):inD true (.bl false) (.lst (bs.map .bl))=some (.bl (bs.all id)):=by
 obtain ⟨h1,h2,h3⟩:=o6 bs
 show (match py (.bl false),pys (bs.map .bl) with | some x,some ys=>if (dep (.bl false)≤60∧deps (bs.map .bl)≤60)∧x.canLay0=true∧PyData.canLayAll0 ys=true then some (D.bl (if true then !ys.any (fun e=>PyData.eqv e x) else ys.any (fun e=>PyData.eqv e x))) else none | _,_=>none)=_
 rw[h1]
 show (if (dep (.bl false)≤60∧deps (bs.map .bl)≤60)∧(PyData.bool false).canLay0=true∧PyData.canLayAll0 (bs.map .bool)=true then some (D.bl (!(bs.map PyData.bool).any (fun e=>PyData.eqv e (.bool false)))) else none)=_
 rw[if_pos ⟨⟨by simp[dep],by rw[h2];decide⟩,rfl,h3⟩]
 congr 2
 induction bs with
 | nil=>rfl
 | cons b bs ih =>
  obtain ⟨h1,h2,h3⟩:=o6 bs
  rw[List.map_cons,List.any_cons,Bool.not_or,ih h1 h2 h3,List.all_cons]
  cases b <;> rfl
theorem in_some {a:D} {ds:List D} (ha:Nice 60 a) (hd:∀d∈ds,Nice 60 d):∃b,inD false a (.lst ds)=some (.bl b):=by
 obtain ⟨x,a1,a2,a3,a4⟩:=ha
 obtain ⟨xs,b1,b2,b3,b4⟩:=iO hd
 refine ⟨xs.any (fun e=>PyData.eqv e x),?_⟩
 show (match py a,pys ds with | some x,some ys=>if (dep a≤60∧deps ds≤60)∧x.canLay0=true∧PyData.canLayAll0 ys=true then some (D.bl (if false then !ys.any (fun e=>PyData.eqv e x) else ys.any (fun e=>PyData.eqv e x))) else none | _,_=>none)=_
 rw[a1,b1]
 dsimp only
 rw[if_pos ⟨⟨a2,b2⟩,a3,b3⟩]
 rfl
theorem nB {xs:List Rat} {B:Nat} (h:∀q∈xs,sz q≤B) (hB:1≤B) (j:Nat):sz (xs.getD j 0)≤B:=by
 rw[List.getD_eq_getElem?_getD]
 cases e:xs[j]? with
 | none=>rw[Option.getD_none,sz0];exact hB
 | some q=>exact h q (List.mem_of_getElem? e)
theorem lT {xs:List Rat} {s:Pen} {B:Nat} (hl:xs.length≤100) (h:∀q∈xs,sz q≤B) (hB:1≤B) (hB':B≤1000):∃xs' s',fg.p [.pen,lD xs] s=.ok (lD xs') s'∧xs'.length=xs.length∧∀q∈xs',sz q≤B+21:=by
 rw[pK (by rfl)];unfold iK
 rw[show dSt 4 [D.pen,lD xs]=[some .pen,some (lD xs),none,none] from rfl]
 have hc:bh.p [lD xs]=some (lD xs):=cg (by simp;omega)
 have hn:=k5 (dA (k:=58) (xs:=xs))
 simp only[aF,fW,bK,aj,am,aq,PR.bind_ok,ar,hc,PR.of_some,PR.go_ok,List.set_cons_succ,List.set_cons_zero,PU.aw,cL,fM,xB_p,aB,bF,List.length_nil,Nat.zero_le,if_true,eD,hn,PR.bl]
 cases ex:xs with
 | nil=>exact ⟨[],s,rfl,rfl,by simp⟩
 | cons q0 xs0 =>
  rw[←ex]
  have hpos:0<xs.length:=by rw[ex];simp
  have he:(xs.map qD).isEmpty=false:=by rw[ex];rfl
  simp only[he,Bool.not_false,if_true,aA,aj,am,xC_p,aD,ar,PR.bind_ok]
  obtain ⟨d,s1,d0,d1,q1⟩:=bz (s:=s) (size:=2) (by decide) (by decide)
  rw[q1]
  by_cases z:d=0
  ·subst z
   obtain ⟨a,s2,a0,a1,q2⟩:=bz (s:=s1) (size:=(xs.length:Int)) (by omega) (by omega)
   obtain ⟨a,rfl⟩:=e9 a0
   have ha:a<xs.length:=by omega
   obtain ⟨m,s3,q3,hm⟩:=k8 (s:=s2)
   obtain ⟨g,s4,g0,g1,q4⟩:=bz (s:=s3) (size:=2) (by decide) (by decide)
   obtain ⟨y,ey,hy⟩:∃y:Rat,atI [.tup [.int 1,.int 1],qD m] g=some (qD y)∧sz y≤20:=by
    obtain rfl|rfl:g=0∨g=1:=by omega
    ·exact ⟨1,rfl,by rw[sz1];decide⟩
    ·exact ⟨m,rfl,hm⟩
   have hs:=nB h hB a
   have pl:=eX (p:=xs.getD a 0) (q:=y) (s:=s4) (by omega)
   have ad:=d4 (xs.getD a 0) y
   refine ⟨xs.set a (xs.getD a 0+y),s4,?_,by simp,fun q hq=>?_⟩
   ·simp only[PR.bind_ok,ce,bR,decide_true,Bool.false_eq_true,if_false,PR.of_some,PR.go_ok,if_true,aF,aR,aA,aj,am,aq,bK,lR,ar,List.length_map,q2,List.set_cons_succ,List.set_cons_zero,PU.aw]
    rw[dZ,cS (v:=qD (xs.getD a 0+y)) (s1:=s4) (j:=(a:Int)) (s2:=s4) (ds:=xs.map qD) (n:=a) (by
     simp only[aA,aj,aB,am,aq,PR.bind_ok,ca,at_q ha,PR.of_some,bF,aU,xC_p,aD,ar,List.length_cons,List.length_nil,show (0+1+1:Nat)≤100000 by decide,if_true,q3,q4,ey,pl]) (by rfl) rfl (by rw[List.length_map];exact cP ha),hV,PU.aw,jU (d:=lD (xs.set a (xs.getD a 0+y))) rfl,PU.bv]
   ·rcases List.mem_or_eq_of_mem_set hq with hq|rfl
    ·have:=h q hq;omega
    ·omega
  ·refine ⟨xs,s1,?_,rfl,fun q hq=>by have:=h q hq;omega⟩
   simp only[PR.bind_ok,ce,bR,decide_eq_false z,Bool.false_eq_true,if_false,PR.of_some,PR.go_ok,cy,PU.aw]
   rw[jU (d:=lD xs) rfl,PU.bv]
structure PsOk (n:Nat) (ps:List Pt):Prop where
 nd:(ps.map (·.1)).Nodup
 lt:∀p∈ps,p.1<n
 sz:∀p∈ps,sz p.2≤20
 len:ps.length≤n
noncomputable abbrev paT:Xt []:=xB (xBin oEq (ai aK (ab (xVar 1) (ab (xVar 2) xNil))) (xC (.int 0)))
noncomputable abbrev paE:Xe []:=xTup (ab (xVar 0) (ab (ai db (ab (xVar 1) xNil)) xNil))
theorem jS:∀(c lo:Nat) (x0:Option D) (s:Pen),∃(ps:List Pt) (s':Pen),bB (xNm 0:Xg []).p paT.p paE.p ((List.range' lo c).map fun (i:Nat)=>D.int (i:Int)) [x0,some .pen,some (.int 3)] s=.ok (ps.map ptD) s' ∧
  (ps.map (·.1)).Nodup∧(∀p∈ps,lo≤p.1∧p.1<lo+c∧sz p.2≤20)∧ps.length≤c
 | 0,lo,x0,s=>⟨[],s,rfl,by simp,by simp,by simp⟩
 | c+1,lo,x0,s=>by
  obtain ⟨d,s1,d0,d1,q1⟩:=bz (s:=s) (size:=3) (by decide) (by decide)
  rw[List.range'_succ,List.map_cons]
  have e1:bB (xNm 0:Xg []).p paT.p paE.p (D.int (lo:Int)::(List.range' (lo+1) c).map fun (i:Nat)=>D.int (i:Int)) [x0,some .pen,some (.int 3)] s =
    (paT.p [some (.int (lo:Int)),some .pen,some (.int 3)] s).bind fun b s1=>if b=true then (paE.p [some (.int (lo:Int)),some .pen,some (.int 3)] s1).bind fun y s2=>(bB (xNm 0:Xg []).p paT.p paE.p ((List.range' (lo+1) c).map fun (i:Nat)=>D.int (i:Int)) [some (.int (lo:Int)),some .pen,some (.int 3)] s2).bind fun r s3=>.ok (y::r) s3
     else bB (xNm 0:Xg []).p paT.p paE.p ((List.range' (lo+1) c).map fun (i:Nat)=>D.int (i:Int)) [some (.int (lo:Int)),some .pen,some (.int 3)] s1:=by
   rw[bB];rfl
  have t1:paT.p [some (.int (lo:Int)),some .pen,some (.int 3)] s=.ok (decide (d=0)) s1:=by
   simp only[xB_p,aB,aA,aj,am,aq,ar,PR.bind_ok,q1,xC_p,aD,ce,bR,Bool.false_eq_true,if_false,PR.of_some,PR.bl]
  rw[e1,t1,PR.bind_ok]
  by_cases z:d=0
  ·rw[decide_eq_true z,if_pos rfl]
   obtain ⟨q,s2,q2,hq⟩:=k8 (s:=s1)
   have t2:paE.p [some (.int (lo:Int)),some .pen,some (.int 3)] s1=.ok (ptD (lo,q)) s2:=by
    simp only[aU,aj,am,aq,aA,ar,PR.bind_ok,q2,List.length_cons,List.length_nil,show (0+1+1:Nat)≤100000 by decide,if_true]
   obtain ⟨ps,s3,e3,h1,h2,h3⟩:=jS c (lo+1) (some (.int (lo:Int))) s2
   refine ⟨(lo,q)::ps,s3,?_,?_,fun p hp=>?_,by simp;omega⟩
   ·rw[t2,PR.bind_ok,e3];rfl
   ·rw[List.map_cons,List.nodup_cons]
    refine ⟨fun z=>?_,h1⟩
    obtain ⟨p,hp,e⟩:=List.mem_map.mp z
    have:=(h2 p hp).1
    have e:p.1=lo:=e
    omega
   ·rcases List.mem_cons.mp hp with rfl|hp
    ·exact ⟨Nat.le_refl _,by show lo<_;omega,hq⟩
    ·have:=h2 p hp
     exact ⟨by omega,by omega,this.2.2⟩
  ·rw[decide_eq_false z,if_neg (by decide)]
   obtain ⟨ps,s3,e3,h1,h2,h3⟩:=jS c (lo+1) (some (.int (lo:Int))) s1
   exact ⟨ps,s3,e3,h1,fun p hp=>by have:=h2 p hp;exact ⟨by omega,by omega,this.2.2⟩,by omega⟩
theorem parts_p {n:Nat} {s:Pen} (hn:n≤100):∃ps s',d5.p [.pen,.int (n:Int),.int 3] s=.ok (.tup (ps.map ptD)) s'∧PsOk n ps:=by
 obtain ⟨ps,s',e,h1,h2,h3⟩:=jS n 0 none s
 refine ⟨ps,s',?_,h1,fun p hp=>by have:=h2 p hp;omega,fun p hp=>(h2 p hp).2.2,h3⟩
 rw[oJ (by rfl)];unfold g8
 rw[show dSt 3 [D.pen,.int (n:Int),.int 3]=[some .pen,some (.int (n:Int)),some (.int 3)] from rfl,bH,bK,aj,eL]
 simp only[cu,aj,am,aq,PR.bind_ok,ar]
 rw[dQ (by omega),Int.toNat_natCast,fO,List.range_eq_range',PR.of_some,PR.bind_ok,if_pos (by simp;omega)]
 rw[show cenv 1 [0,2] [some D.pen,some (.int (n:Int)),some (.int 3)]=[none,some .pen,some (.int 3)] from rfl,e]
 simp only[PR.bind_ok,lN,PR.of_some,PR.go_ok,PU.bv]
abbrev pD (ps:List Pt):D:=.tup (ps.map ptD)
abbrev psD (pss:List (List Pt)):D:=.lst (pss.map pD)
structure AOk (n:Nat) (r:Rw):Prop where
 ps:PsOk n r.1
 rt:sz r.2≤500
theorem jV {n B:Nat} {ps:List Pt} {xs:List Rat} (h:PsOk n ps) (hn:n≤7) (hx:∀q∈xs,sz q≤B) (hB:1≤B) (hB':B≤41):tot (prs ps xs)≤434:=by
 have:=tot_le (l:=prs ps xs) (m:=7) (c:=62) (by have:=h.len;simp[prs];omega) (fun p hp=>by
  obtain ⟨y,hy,rfl⟩:=List.mem_map.mp hp
  have a:=h.sz y hy
  have b:=nB hx hB y.1
  show Law.sz y.2+Law.sz (xs.getD y.1 0)+1≤62
  omega)
 omega
theorem oC {n B:Nat} {xs:List Rat} {r:Rw} (h:AOk n r) (hn:n≤7) (hl:xs.length=n) (hx:∀q∈xs,sz q≤B) (hB:1≤B) (hB':B≤41):FitOk xs r :=
 ⟨by have:=h.ps.len;omega,fun p hp=>by rw[hl];exact h.ps.lt p hp,by have:=jV h.ps hn hx hB hB';omega,by have:=h.rt;omega⟩
theorem fC {ws ws':List Nat} {env:DEnv} {s:Pen} {n:Nat} {i:Xi ws} {fm:List Nat} {e:Xe ws'} {ds:List D} (hd:ds.length=n) (hn:n≤1000) (ei:i.p env s=.ok ds s) (ee:∀x s,e.p (some x::fm.map fun i=>(env[i]?).getD none) s=aH.p [.pen] s) (h0:ws'.contains 0=false:=by exact ys rfl) (hw:cws 1 fm ws=ws':=by exact ys rfl) (hz:e.fz=true:=by exact ys rfl) :
  ∃xs s',(aP 1 fm i (xNm 0 h0) xTrue e hw hz).p env s=.ok (lD xs) s'∧xs.length=n∧∀q∈xs,sz q≤20:=by
 obtain ⟨r,s1,q,hl,hr⟩:=gK (i:=i) (e:=e) (fm:=fm) (h0:=h0) (hw:=hw) (hz:=hz) (fun y=>∃p:Rat,y=qD p∧sz p≤20) ei (by omega) fun x hx s=>by
  obtain ⟨p,s2,q2,hp⟩:=fi (s:=s)
  exact ⟨qD p,s2,(ee x s).trans q2,p,rfl,hp⟩
 obtain ⟨xs,rfl,hx⟩:=jt hr
 exact ⟨xs,s1,q,by rw[List.length_map] at hl;omega,hx⟩
noncomputable abbrev anI:Xd [4]:=(xIf (xAnd (xB (xBin oNe (xVar 4) (xLst xNil))) (xB (xBin oEq (ai aK (ab (xVar 0) (ab (xC (.int 3)) xNil))) (xC (.int 0))))) (xSeq (xSet 10 (ai aK (ab (xVar 0) (ab (xCb cLen (ab (xVar 4) xNil)) xNil))))
 (xSub 4 (xTup (ab (xBin oIx (xBin oIx (xVar 4) (xVar 10)) (xC (.int 0))) (ab (ai bn (ab (xBin oIx (xBin oIx (xVar 4) (xVar 10)) (xC (.int 1))) (ab (ai db (ab (xVar 0) xNil)) xNil))) xNil))) (xVar 10))) xSkip)
theorem set_r {rs:List Rw} {i:Nat} {r:Rw}:(rs.map rwD).set i (rwD r)=(rs.set i r).map rwD:=by rw[List.map_set]
theorem an_mod {n:Nat} {x1 x2 x3:Option D} {rs:List Rw} {s:Pen} (hl:rs.length≤1000) (h:∀r∈rs,PsOk n r.1∧sz r.2≤450) :
  ∃rs' z s',anI.p [some .pen,x1,x2,x3,some (rsD rs),none,none,none,none,none,none] s=.nx [some .pen,x1,x2,x3,some (rsD rs'),none,none,none,none,none,z] s'∧rs'.length=rs.length∧∀r∈rs',AOk n r:=by
 have hn:=k5 (lE (k:=55) (rs:=rs))
 simp only[cL,fM,xB_p,aB,am,aq,PR.bind_ok,bF,ar,List.length_nil,Nat.zero_le,if_true,eD,hn,PR.of_some,PR.bl]
 cases ex:rs with
 | nil=>exact ⟨[],none,s,rfl,rfl,by simp⟩
 | cons r0 rs0 =>
  rw[←ex]
  have hpos:0<rs.length:=by rw[ex];simp
  have he:(rs.map rwD).isEmpty=false:=by rw[ex];rfl
  simp only[he,Bool.not_false,if_true,aA,aj,am,xC_p,aD,ar,PR.bind_ok]
  obtain ⟨d,s1,d0,d1,q1⟩:=bz (s:=s) (size:=3) (by decide) (by decide)
  rw[q1]
  by_cases z:d=0
  ·subst z
   obtain ⟨a,s2,a0,a1,q2⟩:=bz (s:=s1) (size:=(rs.length:Int)) (by omega) (by omega)
   obtain ⟨a,rfl⟩:=e9 a0
   have ha:a<rs.length:=by omega
   obtain ⟨m,s3,q3,hm⟩:=k8 (s:=s2)
   have hr:=h rs[a] (List.getElem_mem _)
   have pl:=eX (p:=rs[a].2) (q:=m) (s:=s3) (by omega)
   have ad:=d4 rs[a].2 m
   refine ⟨rs.set a (rs[a].1,rs[a].2+m),some (.int (a:Int)),s3,?_,by simp,fun r hr'=>?_⟩
   ·simp only[PR.bind_ok,ce,bR,decide_true,Bool.false_eq_true,if_false,PR.of_some,PR.go_ok,if_true,aF,aR,aA,aj,am,aq,bK,lR,ar,List.length_map,q2,List.set_cons_succ,List.set_cons_zero,PU.aw]
    rw[dZ,cS (v:=rwD (rs[a].1,rs[a].2+m)) (s1:=s3) (j:=(a:Int)) (s2:=s3) (ds:=rs.map rwD) (n:=a) (by
     simp only[aU,aA,aj,aB,am,aq,PR.bind_ok,ca,bO,at_r ha,PR.of_some,xC_p,aD,z0,z1,ar,List.length_cons,List.length_nil,show (0+1+1:Nat)≤100000 by decide,if_true,q3,pl]) (by rfl) rfl (by rw[List.length_map];exact cP ha),set_r]
    rfl
   ·rcases List.mem_or_eq_of_mem_set hr' with hq|rfl
    ·exact ⟨(h r hq).1,by have:=(h r hq).2;omega⟩
    ·exact ⟨hr.1,by show sz (rs[a].2+m)≤500;omega⟩
  ·refine ⟨rs,none,s1,?_,rfl,fun r hr=>⟨(h r hr).1,by have:=(h r hr).2;omega⟩⟩
   simp only[PR.bind_ok,ce,bR,decide_eq_false z,Bool.false_eq_true,if_false,PR.of_some,PR.go_ok,cy]
theorem rA {rs:List (List Pt)} {xs:List Rat}:(rs.map fun ps=>((ps,dot (prs ps xs)):Rw)).all (fit xs)=true:=by
 rw[List.all_eq_true]
 intro r hr
 obtain ⟨ps,_,rfl⟩:=List.mem_map.mp hr
 exact decide_eq_true rfl
theorem bb {b:Bool}:(b == b)=true:=by cases b <;> rfl
theorem isT {neg:Bool} {b:Bool}:(oIs neg).p (.bl b) (.bl true)=some (.bl (if neg then !b else b)):=by
 cases neg <;> cases b <;> rfl
theorem qb {n:Nat} {pss:List (List Pt)} {s:Pen} (hn:n≤7) (hl:pss.length≤8) (h:∀ps∈pss,PsOk n ps):∃s',fI.p [.pen,.int (n:Int),psD pss] s=.ok (.bl true) s':=by
 rw[lB (by rfl)];unfold fE
 rw[show dSt 11 [D.pen,.int (n:Int),psD pss]=[some .pen,some (.int (n:Int)),some (psD pss),none,none,none,none,none,none,none,none] from rfl]
 obtain ⟨xs,s1,q1,hx,hxs⟩:=fC (ws:=[4]) (ws':=[]) (env:=[some .pen,some (.int (n:Int)),some (psD pss),none,none,none,none,none,none,none,none]) (s:=s) (n:=n) (i:=xItA iR1 (ab (xVar 1) xNil)) (fm:=[0]) (e:=ai aH (ab (xVar 1) xNil)) (ds:=rngD 0 n) cX (by omega) (by
  simp only[cu,aj,am,aq,PR.bind_ok,ar]
  rw[dQ (by omega),Int.toNat_natCast];rfl) (fun x s=>rfl)
 rw[aF,aR,q1]
 simp only[PR.go_ok,List.set_cons_succ,List.set_cons_zero,PU.aw]
 have q2:=dm (ws:=[4]) (ws':=[]) (fm:=[3]) (env:=[some .pen,some (.int (n:Int)),some (psD pss),some (lD xs),none,none,none,none,none,none,none]) (i:=xItS (xVar 2)) (t:=xTrue) (e:=xTup (ab (xVar 0) (ab (ai bZ (ab (xVar 0) (ab (xVar 1) xNil))) xNil))) (s0:=s1)
  (l:=pss) pD (fun ps=>rwD (ps,dot (prs ps xs))) (fun _=>true) (s:=s1) (by rfl) (by omega) (fun ps hp=>by
   refine ⟨rfl,fun _=>?_⟩
   show (xTup _:Xe []).p [some (pD ps),some (lD xs)] s1=_
   have c:=jZ (s:=s1) (ps:=ps) (xs:=xs) (fun p hq=>by rw[hx];exact (h ps hp).lt p hq) (by have:=jV (h ps hp) hn hxs (by decide) (by decide);omega)
   simp only[aU,aj,am,aq,PR.bind_ok,aA,ar,c,List.length_cons,List.length_nil,show (0+1+1:Nat)≤100000 by decide,if_true])
 rw[bx,show (pss.map fun ps=>rwD (ps,dot (prs ps xs)))=(pss.map fun ps=>((ps,dot (prs ps xs)):Rw)).map rwD by rw[List.map_map];rfl] at q2
 generalize hrs:(pss.map fun ps=>((ps,dot (prs ps xs)):Rw))=rs at q2
 have hrl:rs.length=pss.length:=by rw[←hrs];simp
 have hro:∀r∈rs,PsOk n r.1∧sz r.2≤450:=fun r hr=>by
  rw[←hrs] at hr
  obtain ⟨ps,hp,rfl⟩:=List.mem_map.mp hr
  have a:=jV (h ps hp) hn hxs (by decide) (by decide)
  have b:=sz_dot (prs ps xs)
  exact ⟨h ps hp,by show sz (dot (prs ps xs))≤450;omega⟩
 rw[aF,fW,q2]
 simp only[PR.go_ok,List.set_cons_succ,List.set_cons_zero,PU.aw]
 have l1:bh.p [rsD rs]=some (rsD rs):=cg (by simp;omega)
 have l2:bh.p [lD xs]=some (lD xs):=cg (by simp;omega)
 have a1:=fJ (s:=s1) (rs:=rs) (xs:=xs) (by omega) fun r hr=>oC (n:=n) ⟨(hro r hr).1,by have:=(hro r hr).2;omega⟩ hn hx hxs (by decide) (by decide)
 rw[←hrs,rA,hrs] at a1
 rw[aF]
 simp only[cL,xB_p,aB,aA,aj,bK,am,aq,PR.bind_ok,ar,l1,l2,PR.of_some,a1,xC_p,hU,isT,if_true,Bool.not_true,PR.bl,PR.go_ok,Bool.false_eq_true,if_false,cy,PU.aw]
 obtain ⟨rs',z,s2,q3,hl',ho'⟩:=an_mod (n:=n) (x1:=some (.int (n:Int))) (x2:=some (psD pss)) (x3:=some (lD xs)) (rs:=rs) (s:=s1) (by omega) hro
 obtain ⟨us,s3,q4,hy,hys⟩:=lT (xs:=xs) (s:=s2) (B:=20) (by omega) hxs (by decide) (by decide)
 have hy':us.length=n:=by omega
 have fo:∀r∈rs',FitOk us r:=fun r hr=>oC (ho' r hr) hn hy' hys (by decide) (by decide)
 have l3:bh.p [rsD rs']=some (rsD rs'):=cg (by simp;omega)
 have l4:bh.p [lD us]=some (lD us):=cg (by simp;omega)
 have a2:=fJ (s:=s3) (rs:=rs') (xs:=us) (by omega) fo
 have q5:=eW (ws:=[4]) (ws':=[]) (fm:=[5]) (env:=[some .pen,some (.int (n:Int)),some (psD pss),some (lD xs),some (rsD rs'),some (lD us),some (rsD rs'),some (lD us),some (.bl (rs'.all (fit us))),none,z]) (i:=xItS (xVar 4)) (t:=xTrue) (e:=xBin oEq (ai bZ (ab (xVar 0) (ab (xVar 2) xNil))) (xVar 1)) (s0:=s3)
  (l:=rs') (fun r=>pD r.1) (fun r=>qD r.2) (fun r=>.bl (fit us r)) (fun _=>true) (s:=s3) (by rfl) (by omega) (fun r hr=>by
   refine ⟨rfl,fun _=>?_⟩
   show (xBin oEq _ _:Xe []).p [some (pD r.1),some (qD r.2),some (lD us)] s3=_
   have c:=jZ (s:=s3) (ps:=r.1) (xs:=us) (fo r hr).lt (fo r hr).tot
   simp only[aB,aj,am,aq,PR.bind_ok,aA,ar,c,ce,nR,Bool.false_eq_true,if_false,PR.of_some];rfl)
 rw[bx,fh] at q5
 have n1:=d3 (neg:=false) (lE (k:=55) (rs:=rs'))
 have n2:=d3 (neg:=false) (dA (k:=58) (xs:=us))
 have n3:=iU (rs'.map (fit us))
 rw[cI] at n3
 have ib:isaT "bool" "bool"=true:=by decide
 refine ⟨s3,?_⟩
 rw[aF]
 refine (congrArg (fun z:PS=>(z.then _).fin) q3).trans ?_
 simp only[PU.aw,aF,aR,aA,aj,am,aq,PR.bind_ok,ar,q4,PR.go_ok,List.set_cons_succ,List.set_cons_zero,bK,l3,l4,PR.of_some,a2]
 rw[q5]
 simp only[PR.go_ok,List.set_cons_succ,List.set_cons_zero,PU.aw,bH,ip,f7,aB,am,aq,PR.bind_ok,xC_p,hU,je,kJ,Option.map_some,List.any_cons,List.any_nil,ib,Bool.or_false,Bool.true_or,PR.of_some,PR.bl,if_true,iz,n3,ce,jo,Bool.false_eq_true,if_false,bb,n1,n2,Bool.not_false,PU.bv]
theorem xMt_run {ws:List Nat} {env:DEnv} {s s1:Pen} {o:OpM} {i:Nat} {a:Xs ws} {hi:ws.contains i=true} {hz:a.fz=true} {as ds ds':List D} {r:D} (e1:a.p env s=.ok as s1) (e2:env[i]?=some (some (.lst ds))) (e3:o.p ds as=some (r,ds')):(xMt o i a hi hz).p env s=.nx (env.set i (some (.lst ds'))) s1:=by
 rw[xMt_p,pV e1 e2 e3]
theorem rf {ws:List Nat} {i:Nat} {e:Xe ws} {b1 b2:Xd (i::ws)} {r:Xd ws} {k1:cn i b1.m} {k2:cn i b2.m} {hi:ws.contains i=false} {hz:e.fr=true} {env:DEnv} {s:Pen}:(jz i e b1 b2 r k1 k2 hi hz).p env s=(fe i e.p b1.p b2.p env s).then r.p:=rfl
theorem kg {i:Nat} {e:DEnv→Pen→PR D} {b1 b2:DEnv→Pen→PS} {env env1 env':DEnv} {s s1 s2 s3:Pen} {ds:List D} {d:D} (h1:e env s=.ok (.lst ds) s1) (h2:b1 (env.set i (some (.lst ds))) s1=.nx env1 s3) (h2':b2 env1 s3=.nx env' s2) (h3:env'[i]?=some (some d)):fe i e b1 b2 env s=.nx env' s2:=by
 unfold fe
 rw[h1]
 dsimp only
 rw[h2,PU.aw,h2']
 dsimp only
 rw[h3]
theorem lY {ws ws':List Nat} {env:DEnv} {s:Pen} {n:Nat} {i:Xi ws} {fm:List Nat} {e:Xe ws'} {pss:List (List Pt)} (hd:pss.length≤1000) (h:∀ps∈pss,PsOk n ps) (ei:i.p env s=.ok (pss.map pD) s) (ee:∀x s,e.p (some x::fm.map fun i=>(env[i]?).getD none) s=(aH.p [.pen] s).bind fun y s1=>.ok (.tup [x,y]) s1) (h0:ws'.contains 0=false:=by exact ys rfl) (hw:cws 1 fm ws=ws':=by exact ys rfl) (hz:e.fz=true:=by exact ys rfl) :
  ∃rs s',(aP 1 fm i (xNm 0 h0) xTrue e hw hz).p env s=.ok (rsD rs) s'∧rs.length=pss.length∧∀r∈rs,PsOk n r.1∧sz r.2≤20:=by
 obtain ⟨r,s1,q,hl,hr⟩:=gK (i:=i) (e:=e) (fm:=fm) (h0:=h0) (hw:=hw) (hz:=hz) (fun y=>∃r:Rw,y=rwD r∧PsOk n r.1∧sz r.2≤20) ei (by simp;omega) fun x hx s=>by
  obtain ⟨ps,hp,rfl⟩:=List.mem_map.mp hx
  obtain ⟨p,s2,q2,hq⟩:=fi (s:=s)
  exact ⟨rwD (ps,p),s2,by rw[ee,q2];rfl,(ps,p),rfl,h ps hp,hq⟩
 obtain ⟨rs,rfl,hx⟩:=jt hr
 exact ⟨rs,s1,q,by simpa using hl,hx⟩
def WOk (n:Nat) (w:List Rat):Prop:=w.length=n∧∀q∈w,sz q≤20
theorem pT {n:Nat}:WOk n (List.replicate n 0):=⟨by simp,fun q hq=>by rw[List.eq_of_mem_replicate hq,sz0];decide⟩
theorem WOk.set {n i:Nat} {w:List Rat} {q:Rat} (h:WOk n w) (hq:sz q≤20):WOk n (w.set i q):=⟨by simp[h.1],fun y hy=>by
 rcases List.mem_or_eq_of_mem_set hy with z|rfl
 ·exact h.2 y z
 ·exact hq⟩
theorem oq (q:Rat):D.tup [.int (0 - q.num),.int (q.den:Int)]=qD (-q):=by
 rw[qD,Rat.neg_num,Rat.neg_den,Int.zero_sub]
noncomputable abbrev wyI:Xd [4]:=(xIf (xB (xBin oNe (xVar 5) (xLst xNil))) (xSeq (xPar 8 9 (ab (xBin oIx (xBin oIx (xVar 5) (xC (.int 0))) (xC (.int 0))) (ab (xBin oIx (xBin oIx (xVar 5) (xC (.int 0))) (xUn oNeg (xC (.int 1)))) xNil)))
 (jz 6 (xBin oMul (xLst (ab (xTup (ab (xC (.int 0)) (ab (xC (.int 1)) xNil))) xNil)) (xVar 1)) (xSub 6 (xBin oIx (xVar 9) (xC (.int 1))) (xBin oIx (xVar 8) (xC (.int 0)))) (xSub 6 (xTup (ab (xBin oSub (xC (.int 0)) (xBin oIx (xBin oIx (xVar 8) (xC (.int 1))) (xC (.int 0)))) (ab (xBin oIx (xBin oIx (xVar 8) (xC (.int 1))) (xC (.int 1))) xNil))) (xBin oIx (xVar 9) (xC (.int 0))))
 (xMt jJ 4 (ab (xVar 6) xNil)) dI dI)) xSkip)
theorem wy_if {n:Nat} {x0 x2 x3:Option D} {wys:List (List Rat)} {lng:List (List Pt)} {s:Pen} (hn:n≤100) (hw:wys.length≤10) (hl:∀ps∈lng,PsOk n ps∧1<ps.length) (hwy:∀w∈wys,WOk n w) :
  ∃(wys':List (List Rat)) (z6 z8 z9:Option D),wyI.p [x0,some (.int (n:Int)),x2,x3,some (.lst (wys.map lD)),some (psD lng),none,none,none,none,none,none,none] s=.nx [x0,some (.int (n:Int)),x2,x3,some (.lst (wys'.map lD)),some (psD lng),z6,none,z8,z9,none,none,none] s∧wys'.length≤wys.length+1∧∀w∈wys',WOk n w:=by
 have nn:Nice 60 (psD lng):=dC (k:=59) fun d hd=>by
  obtain ⟨p,_,rfl⟩:=List.mem_map.mp hd
  exact gA (k:=56)
 have hne:=k5 nn
 simp only[cL,xB_p,aB,am,aq,PR.bind_ok,bF,ar,List.length_nil,Nat.zero_le,if_true,eD,hne,PR.of_some,PR.bl,PR.go_ok]
 cases ex:lng with
 | nil=>exact ⟨wys,none,none,none,rfl,by omega,hwy⟩
 | cons ps lng0 =>
  obtain ⟨hp,h1⟩:=hl ps (by rw[ex];simp)
  have he:((ps::lng0).map pD).isEmpty=false:=rfl
  simp only[he,Bool.not_false,if_true]
  obtain ⟨f,hf⟩:∃f,ps[0]?=some f:=⟨_,List.getElem?_eq_getElem (by omega)⟩
  obtain ⟨g,hg⟩:∃g,ps[ps.length - 1]?=some g:=⟨_,List.getElem?_eq_getElem (by omega)⟩
  have i0:atI ((ps::lng0).map pD) 0=some (pD ps):=L2.cH (j:=0) rfl
  have i1:atI (ps.map ptD) 0=some (ptD f):=by
   have:=L2.cH (xs:=ps.map ptD) (j:=0) (v:=ptD f) (by rw[List.getElem?_map,hf];rfl)
   exact this
  have i2:atI (ps.map ptD) (-1)=some (ptD g):=by
   have hx:ixN (ps.map ptD).length (-1)=some (ps.length - 1):=by
    unfold ixN
    rw[List.length_map,if_neg (by decide),if_pos (by omega)]
    congr 1
    omega
   unfold atI
   rw[hx,Option.bind_some,List.getElem?_map,hg];rfl
  have mf:=hp.lt f (List.mem_of_getElem? hf)
  have mg:=hp.lt g (List.mem_of_getElem? hg)
  have sf:=hp.sz f (List.mem_of_getElem? hf)
  have sg:=hp.sz g (List.mem_of_getElem? hg)
  have n1:oNeg.p (.int 1)=some (.int (-1)):=rfl
  have w1:WOk n ((List.replicate n (0:Rat)).set f.1 g.2):=pT.set sg
  have w2:WOk n (((List.replicate n (0:Rat)).set f.1 g.2).set g.1 (-f.2)):=w1.set (by rw[lg];exact sf)
  have ng:=oq f.2
  refine ⟨wys++[((List.replicate n (0:Rat)).set f.1 g.2).set g.1 (-f.2)],some (lD (((List.replicate n (0:Rat)).set f.1 g.2).set g.1 (-f.2))),some (ptD f),some (ptD g),?_,by simp,fun w hw'=>?_⟩
  ·simp only[aF,pc,aj,aB,am,aq,PR.bind_ok,xC_p,aD,ca,bO,i0,i1,i2,PR.of_some,f7,n1,ar,PR.go_ok,List.set_cons_succ,List.set_cons_zero,PU.aw]
   rw[rf,kg (i:=6) (ds:=(List.replicate n (0:Rat)).map qD) (s1:=s) (s2:=s) (s3:=s) (d:=lD (((List.replicate n (0:Rat)).set f.1 g.2).set g.1 (-f.2)))
    (env1:=[x0,some (.int (n:Int)),x2,x3,some (.lst (wys.map lD)),some (psD (ps::lng0)),some (lD ((List.replicate n (0:Rat)).set f.1 g.2)),none,some (ptD f),some (ptD g),none,none,none])
    (env':=[x0,some (.int (n:Int)),x2,x3,some (.lst (wys.map lD)),some (psD (ps::lng0)),some (lD (((List.replicate n (0:Rat)).set f.1 g.2).set g.1 (-f.2))),none,some (ptD f),some (ptD g),none,none,none])
    (by simp only[aB,bF,aU,aj,xC_p,aD,ar,PR.bind_ok,List.length_cons,List.length_nil,show (0+1+1:Nat)≤100000 by decide,show (0+1:Nat)≤100000 by decide,if_true,am,aq,kP (show n≤1000 by omega),PR.of_some])
    (by
     rw[dZ,cS (v:=qD g.2) (s1:=s) (j:=(f.1:Int)) (s2:=s) (ds:=(List.replicate n (0:Rat)).map qD) (n:=f.1) (by
      simp only[aB,am,aq,PR.bind_ok,xC_p,aD,bO,z1,PR.of_some,List.set_cons_succ,List.set_cons_zero]) (by
      simp only[aB,am,aq,PR.bind_ok,xC_p,aD,bO,z0,PR.of_some,List.set_cons_succ,List.set_cons_zero]) rfl (by rw[List.length_map,List.length_replicate];exact cP mf),hV]
     rfl)
    (by
     rw[dZ,cS (v:=qD (-f.2)) (s1:=s) (j:=(g.1:Int)) (s2:=s) (ds:=((List.replicate n (0:Rat)).set f.1 g.2).map qD) (n:=g.1) (by
      simp only[aU,aj,aB,am,aq,PR.bind_ok,xC_p,aD,bO,z0,z1,PR.of_some,fN,ar,List.length_cons,List.length_nil,show (0+1+1:Nat)≤100000 by decide,if_true,ng]) (by
      simp only[aB,am,aq,PR.bind_ok,xC_p,aD,bO,z0,PR.of_some]) rfl (by rw[List.length_map,List.length_set,List.length_replicate];exact cP mg),hV]
     rfl) rfl,PU.aw,xMt_run (s1:=s) (as:=[lD (((List.replicate n (0:Rat)).set f.1 g.2).set g.1 (-f.2))]) (ds:=wys.map lD) (ds':=(wys++[((List.replicate n (0:Rat)).set f.1 g.2).set g.1 (-f.2)]).map lD) (r:=.non) (by
     simp only[aj,am,aq,ar,PR.bind_ok]) rfl (by rw[pd (by simp;omega)];simp)]
   rfl
  ·rcases List.mem_append.mp hw' with hw'|hw'
   ·exact hwy w hw'
   ·rw[List.mem_singleton.mp hw'];exact w2
noncomputable abbrev wyB:Xd []:=(xSeq (xSet 10 (xCb bh (ab (xVar 6) xNil)))
 (xSeq (xSet 11 (ai dL (ab (xVar 7) (ab (xVar 10) xNil))))
 (xSeq (xSet 12 (aP 2 [6] (xItS (xVar 7)) (ws':=[]) (xGp (xGc (xNm 0) (xGc (xNm 1) xGl)) 2) xTrue (xBin oEq (ai bZ (ab (xVar 0) (ab (xVar 2) xNil))) (xTup (ab (xC (.int 0)) (ab (xC (.int 1)) xNil))))))
 (xIf (xOr (xNot (xB (xUn (oIsi ["bool"]) (xVar 11)))) (xOr (xB (xBin oNe (xVar 11) (xBin (oIn true) (xC (.bl false)) (xVar 12)))) (xB (xBin oNe (xVar 10) (xVar 6))))) (xRet (xC (.bl false))) xSkip))))
theorem wy_turn {n:Nat} {x0 x1 x2 x3 x4 x5 x8 x9 x10 x11 x12:Option D} {w:List Rat} {rs:List Rw} {s:Pen} (hn:n≤7) (hl:rs.length≤1000) (hw:WOk n w) (h:∀r∈rs,AOk n r) :
  ∃y10 y11 y12,wyB.p [x0,x1,x2,x3,x4,x5,some (lD w),some (rsD rs),x8,x9,x10,x11,x12] s=.nx [x0,x1,x2,x3,x4,x5,some (lD w),some (rsD rs),x8,x9,y10,y11,y12] s:=by
 have fo:∀r∈rs,FitOk w r:=fun r hr=>oC (h r hr) hn hw.1 hw.2 (by decide) (by decide)
 have l4:bh.p [lD w]=some (lD w):=cg (by have:=hw.1;simp;omega)
 have a2:=kT (s:=s) (rs:=rs) (xs:=w) (by omega) fo
 have q5:=eW (ws:=[]) (ws':=[]) (fm:=[6]) (env:=[x0,x1,x2,x3,x4,x5,some (lD w),some (rsD rs),x8,x9,some (lD w),some (.bl (rs.all (fit0 w))),x12]) (i:=xItS (xVar 7)) (t:=xTrue) (e:=xBin oEq (ai bZ (ab (xVar 0) (ab (xVar 2) xNil))) (xTup (ab (xC (.int 0)) (ab (xC (.int 1)) xNil)))) (s0:=s)
  (l:=rs) (fun r=>pD r.1) (fun r=>qD r.2) (fun r=>.bl (fit0 w r)) (fun _=>true) (s:=s) (by rfl) (by omega) (fun r hr=>by
   refine ⟨rfl,fun _=>?_⟩
   show (xBin oEq _ _:Xe []).p [some (pD r.1),some (qD r.2),some (lD w)] s=_
   have c:=jZ (s:=s) (ps:=r.1) (xs:=w) (fo r hr).lt (fo r hr).tot
   have e:=nR (neg:=false) (a:=dot (prs r.1 w)) (b:=0)
   rw[q0] at e
   simp only[aB,aU,aj,am,aq,PR.bind_ok,aA,ar,xC_p,aD,List.length_cons,List.length_nil,show (0+1+1:Nat)≤100000 by decide,if_true,c,ce,e,Bool.false_eq_true,if_false,PR.of_some];rfl)
 rw[bx,fh] at q5
 have n2:=d3 (neg:=true) (dA (k:=58) (xs:=w))
 have n3:=iU (rs.map (fit0 w))
 rw[cI] at n3
 have ib:isaT "bool" "bool"=true:=by decide
 refine ⟨some (lD w),some (.bl (rs.all (fit0 w))),some (.lst ((rs.map (fit0 w)).map .bl)),?_⟩
 simp only[aF,aR,aA,aj,am,aq,PR.bind_ok,ar,PR.go_ok,List.set_cons_succ,List.set_cons_zero,PU.aw,bK,l4,PR.of_some,a2]
 rw[q5]
 simp only[PR.go_ok,List.set_cons_succ,List.set_cons_zero,PU.aw,cL,kK,jE,xB_p,f7,aB,am,aq,PR.bind_ok,xC_p,hU,je,kJ,Option.map_some,List.any_cons,List.any_nil,ib,Bool.or_false,Bool.true_or,PR.of_some,PR.bl,if_true,Bool.not_true,iz,n3,eD,jo,Bool.false_eq_true,if_false,bb,n2,cy]
theorem cut1 {α:Type} (l:List α) (f:α→D):cutD (l.map f) none (some 1)=(l.take 1).map f:=by
 have e:HT.sIx (l.map f).length (l.map f).length (some 1)=min 1 (l.map f).length:=HT.mN _ _ 1
 unfold cutD
 rw[e,HT.ln,List.drop_zero,Nat.sub_zero,←List.map_take,List.length_map]
 congr 1
 cases l with
 | nil=>rfl
 | cons x l=>rw[show min 1 (x::l).length=1 by simp]
theorem ways_p {n:Nat} {pss:List (List Pt)} {s:Pen} (hn:n≤7) (hl:pss.length≤8) (h:∀ps∈pss,PsOk n ps):∃s',iL.p [.pen,.int (n:Int),psD pss] s=.ok (.bl true) s':=by
 rw[pv (by rfl)];unfold iR
 rw[show dSt 13 [D.pen,.int (n:Int),psD pss]=[some .pen,some (.int (n:Int)),some (psD pss),none,none,none,none,none,none,none,none,none,none] from rfl]
 obtain ⟨rs,s1,q1,hrl,hrs⟩:=lY (ws:=[]) (ws':=[]) (env:=[some .pen,some (.int (n:Int)),some (psD pss),none,none,none,none,none,none,none,none,none,none]) (s:=s) (n:=n) (i:=xItS (xVar 2)) (fm:=[0]) (e:=xTup (ab (xVar 0) (ab (ai aH (ab (xVar 1) xNil)) xNil))) (pss:=pss) (by omega) h (by rfl) (fun x s=>by
  show (xTup _:Xe []).p [some x,some .pen] s=_
  simp only[aU,aj,am,aq,aA,ar,PR.bind_ok]
  cases aH.p [.pen] s <;> rfl)
 have ao:∀r∈rs,AOk n r:=fun r hr=>⟨(hrs r hr).1,by have:=(hrs r hr).2;omega⟩
 rw[aF,aR,q1]
 simp only[PR.go_ok,List.set_cons_succ,List.set_cons_zero,PU.aw]
 obtain ⟨w2,s2,q2,hw2,hws2⟩:=fC (ws:=[]) (ws':=[]) (env:=[some .pen,some (.int (n:Int)),some (psD pss),some (rsD rs),none,none,none,none,none,none,none,none,none]) (s:=s1) (n:=n) (i:=xItA iR1 (ab (xVar 1) xNil)) (fm:=[0]) (e:=ai aH (ab (xVar 1) xNil)) (ds:=rngD 0 n) cX (by omega) (by
  simp only[cu,aj,am,aq,PR.bind_ok,ar]
  rw[dQ (by omega),Int.toNat_natCast];rfl) (fun x s=>rfl)
 obtain ⟨wys,z6,z8,z9,q4,hwl,hwo⟩:=wy_if (n:=n) (x0:=some .pen) (x2:=some (psD pss)) (x3:=some (rsD rs)) (wys:=[List.replicate n 0,w2]) (lng:=pss.filter fun ps=>decide (1<(ps.length:Int))) (s:=s2) (by omega) (by simp) (fun ps hp=>by
  obtain ⟨a,b⟩:=List.mem_filter.mp hp
  exact ⟨h ps a,by have:=of_decide_eq_true b;omega⟩) (fun w hw=>by
  simp only[List.mem_cons,List.not_mem_nil,or_false] at hw
  rcases hw with rfl|rfl
  ·exact pT
  ·exact ⟨hw2,hws2⟩)
 refine ⟨s2,?_⟩
 refine (congrArg (fun z:PS=>(z.then _).fin) (kg (i:=4) (ds:=[List.replicate n (0:Rat),w2].map lD) (s1:=s2) (s3:=s2) (s2:=s2) (d:=.lst (wys.map lD))
  (env1:=[some .pen,some (.int (n:Int)),some (psD pss),some (rsD rs),some (.lst ([List.replicate n (0:Rat),w2].map lD)),some (psD (pss.filter fun ps=>decide (1<(ps.length:Int)))),none,none,none,none,none,none,none])
  (env':=[some .pen,some (.int (n:Int)),some (psD pss),some (rsD rs),some (.lst (wys.map lD)),some (psD (pss.filter fun ps=>decide (1<(ps.length:Int)))),z6,none,z8,z9,none,none,none])
  (by
   rw[bF,aj,aB]
   simp only[bF,aU,aj,xC_p,aD,ar,PR.bind_ok,List.length_cons,List.length_nil,show (0+1+1:Nat)≤100000 by decide,show (0+1:Nat)≤100000 by decide,if_true,am,aq,kP (show n≤1000 by omega),PR.of_some]
   rw[q2]
   rfl)
  (by
   rw[aR,dm (ws':=[]) (l:=pss) pD pD (fun ps=>decide (1<(ps.length:Int))) (s:=s2) (by rfl) (by omega) (fun ps hp=>⟨by
    show (xB _:Xt []).p [some (pD ps)] s2=_
    simp only[xB_p,aB,bK,aj,am,ar,PR.bind_ok,cLen_t,List.length_map,PR.of_some,xC_p,aD,qf,PR.bl],fun _=>rfl⟩)]
   rfl) q4 rfl)).trans ?_
 obtain ⟨e5,s5,q5,z6,z7,z10,z11,z12,hE5,hs5⟩:=fT (g:=(xNm 6:Xg []).p) (b:=(xFor (xItS (xTup (ab (xVar 3) (ab (xSl (xVar 3) xNo (xPt (xC (.int 1)))) (ab (aP 1 [5] (xItS (xVar 3)) (ws':=[]) (xNm 0) (xB (xBin (oIn false) (xBin oIx (xVar 0) (xC (.int 0))) (xSl (xVar 1) xNo (xPt (xC (.int 1)))))) (xVar 0)) xNil))))) (xNm 7) wyB:Xd []).p)
  (fun j env s=>∃z6 z7 z10 z11 z12,env=[some .pen,some (.int (n:Int)),some (psD pss),some (rsD rs),some (.lst (wys.map lD)),some (psD (pss.filter fun ps=>decide (1<(ps.length:Int)))),z6,z7,z8,z9,z10,z11,z12]∧s=s2) (wys.map lD) 0 [some .pen,some (.int (n:Int)),some (psD pss),some (rsD rs),some (.lst (wys.map lD)),some (psD (pss.filter fun ps=>decide (1<(ps.length:Int)))),z6,none,z8,z9,none,none,none] s2 ⟨_,_,_,_,_,rfl,rfl⟩ (fun j env s d ⟨z6,z7,z10,z11,z12,hE,hs⟩ hd=>by
   subst hE hs
   obtain ⟨w,hw,rfl⟩:=List.mem_map.mp (List.mem_of_getElem? hd)
   have wo:=hwo w hw
   have hin:∀r:Rw,∃b,inD false (pD r.1) (.lst ((pss.filter fun ps=>decide (1<(ps.length:Int))).take 1 |>.map pD))=some (.bl b):=fun r=>in_some (gA (k:=57)) fun d hd=>by
    obtain ⟨p,_,rfl⟩:=List.mem_map.mp hd
    exact gA (k:=57)
   obtain ⟨fb,hfb⟩:∃fb:Rw→Bool,∀r:Rw,inD false (pD r.1) (.lst ((pss.filter fun ps=>decide (1<(ps.length:Int))).take 1 |>.map pD))=some (.bl (fb r)):=⟨fun r=>(hin r).choose,fun r=>(hin r).choose_spec⟩
   have q6:=dm (ws:=[]) (ws':=[]) (fm:=[5]) (env:=[some .pen,some (.int (n:Int)),some (psD pss),some (rsD rs),some (.lst (wys.map lD)),some (psD (pss.filter fun ps=>decide (1<(ps.length:Int)))),some (lD w),z7,z8,z9,z10,z11,z12]) (i:=xItS (xVar 3)) (t:=xB (xBin (oIn false) (xBin oIx (xVar 0) (xC (.int 0))) (xSl (xVar 1) xNo (xPt (xC (.int 1)))))) (e:=xVar 0) (s0:=s)
    (l:=rs) rwD rwD fb (s:=s) (by rfl) (by omega) (fun r hr=>⟨by
     show (xB _:Xt []).p [some (rwD r),some (psD (pss.filter fun ps=>decide (1<(ps.length:Int))))] s=_
     simp only[xB_p,aB,am,aq,xC_p,aD,PR.bind_ok,bO,z0,PR.of_some,kM,kG,kE,kI,cut1,iz,hfb r,PR.bl],fun _=>rfl⟩)
   obtain ⟨e7,s7,q7,z7',y10,y11,y12,hE7,hs7⟩:=fT (g:=(xNm 7:Xg []).p) (b:=wyB.p)
    (fun j env s'=>∃z7 z10 z11 z12,env=[some .pen,some (.int (n:Int)),some (psD pss),some (rsD rs),some (.lst (wys.map lD)),some (psD (pss.filter fun ps=>decide (1<(ps.length:Int)))),some (lD w),z7,z8,z9,z10,z11,z12]∧s'=s) [rsD rs,rsD (rs.take 1),rsD (rs.filter fb)] 0 [some .pen,some (.int (n:Int)),some (psD pss),some (rsD rs),some (.lst (wys.map lD)),some (psD (pss.filter fun ps=>decide (1<(ps.length:Int)))),some (lD w),z7,z8,z9,z10,z11,z12] s ⟨_,_,_,_,rfl,rfl⟩ (fun j env s' d ⟨z7,z10,z11,z12,hE,hs⟩ hd=>by
     subst hE hs
     obtain ⟨rs',rfl,hsub,hlen⟩:∃rs':List Rw,d=rsD rs'∧(∀r∈rs',r∈rs)∧rs'.length≤1000:=by
      have:=List.mem_of_getElem? hd
      simp only[List.mem_cons,List.not_mem_nil,or_false] at this
      rcases this with rfl|rfl|rfl
      ·exact ⟨rs,rfl,fun _ h=>h,by omega⟩
      ·exact ⟨rs.take 1,rfl,fun r hr=>List.mem_of_mem_take hr,by simp;omega⟩
      ·exact ⟨_,rfl,fun r hr=>(List.mem_filter.mp hr).1,by have:=List.length_filter_le fb rs;omega⟩
     obtain ⟨y10,y11,y12,q⟩:=wy_turn (n:=n) (x0:=some .pen) (x1:=some (.int (n:Int))) (x2:=some (psD pss)) (x3:=some (rsD rs)) (x4:=some (.lst (wys.map lD))) (x5:=some (psD (pss.filter fun ps=>decide (1<(ps.length:Int))))) (x8:=z8) (x9:=z9) (x10:=z10) (x11:=z11) (x12:=z12) (w:=w) (rs:=rs') (s:=s') hn hlen wo fun r hr=>ao r (hsub r hr)
     exact ⟨_,_,s',rfl,q,_,_,_,_,rfl,rfl⟩)
   subst hE7 hs7
   refine ⟨[some .pen,some (.int (n:Int)),some (psD pss),some (rsD rs),some (.lst (wys.map lD)),some (psD (pss.filter fun ps=>decide (1<(ps.length:Int)))),some (lD w),z7,z8,z9,z10,z11,z12],[some .pen,some (.int (n:Int)),some (psD pss),some (rsD rs),some (.lst (wys.map lD)),some (psD (pss.filter fun ps=>decide (1<(ps.length:Int)))),some (lD w),z7',z8,z9,y10,y11,y12],s7,rfl,?_,some (lD w),z7',y10,y11,y12,rfl,rfl⟩
   rw[eS,eQ,aU,aj]
   simp only[am,aq,PR.bind_ok,aj,kM,kG,kE,xC_p,aD,kI,cut1,PR.of_some]
   rw[q6]
   exact q7)
 subst hE5 hs5
 rw[PU.aw,aF,eS]
 simp only[eQ,am,aq,PR.bind_ok,show (D.lst (wys.map lD)).items=some (wys.map lD) from rfl,PR.of_some,PR.go_ok]
 refine (congrArg (fun z:PS=>(z.then _).fin) q5).trans ?_
 rfl
theorem lF {a:Rat} {l:List (Rat × Rat)} {p:Rat × Rat}:dotF a (l++[p])=dotF a l+p.1 * p.2:=by simp[dotF]
theorem PsOk.row {n:Nat} {r:Rw} (h:PsOk n r.1):RowOk n r:=⟨h.nd,h.lt⟩
theorem gb {r:Rw} {m:Rat} {A B:Nat} (h1:∀p∈r.1,sz p.2≤A) (h2:sz r.2≤A) (h3:sz m≤B):cw r m≤A+B+1 :=
 mK (fun p hp=>by have:=h1 p hp;show sz p.2+sz m+1≤_;omega) (by show sz r.2+sz m+1≤_;omega)
theorem pN:TW []=0:=rfl
theorem nP {c:Nat}:∀{rs:List Rw} {us:List Rat},(∀r∈rs,∀q∈us,cw r q≤c)→TW (rs.zip us)≤rs.length * c
 | [],us,_=>by simp[TW]
 | r::rs,[],_=>by simp[TW]
 | r::rs,q::us,h=>by
  have:=nP (c:=c) (rs:=rs) (us:=us) fun r hr q hq=>h r (List.mem_cons_of_mem _ hr) q (List.mem_cons_of_mem _ hq)
  have h1:=h r (by simp) q (by simp)
  rw[List.zip_cons_cons,dD,List.length_cons,Nat.succ_mul]
  dsimp only
  omega
theorem jI {c d:Nat} {R:Rw}:∀{rs:List Rw} {us:List Rat},(∀r∈rs,∀q∈us,cw r q≤c)→(∀q∈us,cw R q≤d)→TW ((rs++[R]).zip us)≤rs.length * c+d
 | [],[],_,_=>by simp[TW]
 | [],q::us,_,h2=>by
  have:=h2 q (by simp)
  show TW ((R,q)::[].zip us)≤_
  rw[dD,List.zip_nil_left,pN]
  dsimp only
  omega
 | r::rs,[],_,_=>by simp[TW]
 | r::rs,q::us,h1,h2=>by
  have:=jI (c:=c) (d:=d) (R:=R) (rs:=rs) (us:=us) (fun r hr q hq=>h1 r (List.mem_cons_of_mem _ hr) q (List.mem_cons_of_mem _ hq)) fun q hq=>h2 q (List.mem_cons_of_mem _ hq)
  have e:=h1 r (by simp) q (by simp)
  rw[List.cons_append,List.zip_cons_cons,dD,List.length_cons,Nat.succ_mul]
  dsimp only
  omega
def ofA (n:Nat) (xs:List Rat):List Pt:=((List.range n).filter fun j=>!decide ((xs.getD j 0).num=0)).map fun j=>(j,xs.getD j 0)
theorem kS {n:Nat} {xs:List Rat} {s:Pen} (hn:n≤1000) (h:n≤xs.length):eA.p [.int (n:Int),lD xs] s=.ok (pD (ofA n xs)) s:=by
 rw[mD (by rfl)];unfold gD
 rw[show dSt 2 [D.int (n:Int),lD xs]=[some (.int (n:Int)),some (lD xs)] from rfl,bH,bK,aj,dm (l:=List.range n) (fun (j:Nat)=>D.int (j:Int)) (fun j=>ptD (j,xs.getD j 0)) (fun j=>!decide ((xs.getD j 0).num=0)) (s:=s) (by
   simp only[cu,aj,am,PR.bind_ok,ar]
   rw[dQ (by omega),Int.toNat_natCast,fO];rfl) (by simp;omega) (fun j hj=>by
   have hj':j<xs.length:=by rw[List.mem_range] at hj;omega
   refine ⟨?_,fun _=>?_⟩
   ·show (xB _:Xt []).p [some (.int (j:Int)),some (lD xs)] s=_
    simp only[xB_p,aB,am,aq,PR.bind_ok,ca,at_q hj',PR.of_some,xC_p,aD,bO,z0,eD,bR,if_true,PR.bl]
   ·show (xTup _:Xe []).p [some (.int (j:Int)),some (lD xs)] s=_
    simp only[aU,aj,aB,am,aq,PR.bind_ok,ca,at_q hj',PR.of_some,ar,List.length_cons,List.length_nil,show (0+1+1:Nat)≤100000 by decide,if_true])]
 unfold ofA pD
 rw[List.map_map]
 simp only[PR.bind_ok,ar,lN,PR.of_some,PR.go_ok,PU.bv];rfl
theorem j0 {n:Nat} {xs:List Rat} {y:Rat}:RowOk n (ofA n xs,y):=by
 have e:(ofA n xs).map (·.1)=(List.range n).filter fun j=>!decide ((xs.getD j 0).num=0):=by
  unfold ofA;rw[List.map_map];exact (List.map_congr_left (g:=id) fun _ _=>rfl).trans (List.map_id _)
 refine ⟨by show ((ofA n xs).map (·.1)).Nodup;rw[e];exact List.nodup_range.filter _,fun p hp=>?_⟩
 obtain ⟨j,hj,rfl⟩:=List.mem_map.mp hp
 exact List.mem_range.mp (List.mem_filter.mp hj).1
theorem pQ {n B:Nat} {xs:List Rat} (h:∀j,sz (xs.getD j 0)≤B):∀p∈ofA n xs,sz p.2≤B:=fun p hp=>by
 obtain ⟨j,_,rfl⟩:=List.mem_map.mp hp
 exact h j
theorem coef_in {ps:List Pt} {p:Pt} (nd:(ps.map (·.1)).Nodup) (h:p∈ps):coef ps p.1=p.2:=by
 induction ps with
 | nil=>cases h
 | cons q ps ih =>
  rw[List.map_cons,List.nodup_cons] at nd
  rw[ft]
  rcases List.mem_cons.mp h with rfl|h
  ·rw[if_pos rfl]
  ·rw[if_neg fun z=>nd.1 (List.mem_map.mpr ⟨p,h,z.symm⟩),ih nd.2 h]
theorem qZ {n j:Nat} {xs:List Rat} (hj:j<n):coef (ofA n xs) j=xs.getD j 0:=by
 by_cases z:(xs.getD j 0).num=0
 ·rw[fx fun q=>by
   obtain ⟨p,hp,e⟩:=List.mem_map.mp q
   obtain ⟨k,hk,rfl⟩:=List.mem_map.mp hp
   have e:k=j:=e
   subst e
   have:=(List.mem_filter.mp hk).2
   rw[decide_eq_true z] at this
   cases this]
  exact (Rat.num_eq_zero.mp z).symm
 ·exact coef_in (p:=(j,xs.getD j 0)) (j0 (y:=0)).nd (List.mem_map.mpr ⟨j,List.mem_filter.mpr ⟨List.mem_range.mpr hj,by rw[decide_eq_false z];rfl⟩,rfl⟩)
theorem lb {rs:List Rw} {ms:List Rat} {R:Rw} {y:Rat} (h:rs.length=ms.length):(rs++[R]).zip (ms++[y])=rs.zip ms++[(R,y)]:=by
 rw[List.zip_append h];rfl
theorem mx_last {rs:List Rw} {ms:List Rat} {R:Rw} {y:Rat} {j:Nat} (h:rs.length=ms.length):dot (mx (rs++[R]) (ms++[y]) j)=dot (mx rs ms j)+coef R.1 j * y:=by
 unfold mx
 rw[lb h,List.map_append]
 exact lF
theorem rg_last {rs:List Rw} {ms:List Rat} {R:Rw} {y:Rat} (h:rs.length=ms.length):dot (rg (rs++[R]) (ms++[y]))=dot (rg rs ms)+R.2 * y:=by
 unfold rg
 rw[lb h,List.map_append]
 exact lF
def neg (xs:List Rat):List Rat:=xs.map fun q => -q
theorem jl {xs:List Rat} {j:Nat}:(neg xs).getD j 0 = -(xs.getD j 0):=by
 unfold neg
 simp only[List.getD_eq_getElem?_getD,List.getElem?_map]
 cases xs[j]? with
 | none=>show (0:Rat) = -0;grind
 | some q=>rfl
theorem cutn {α:Type} (l:List α) (f:α→D) (k:Nat):cutD (l.map f) none (some (k:Int))=(l.take k).map f:=by
 have e:HT.sIx (l.map f).length (l.map f).length (some (k:Int))=min k (l.map f).length:=HT.mN _ _ k
 unfold cutD
 rw[e,HT.ln,List.drop_zero,Nat.sub_zero,←List.map_take,List.length_map]
 congr 1
 by_cases z:k≤l.length
 ·rw[Nat.min_eq_left z]
 ·rw[Nat.min_eq_right (by omega),List.take_of_length_le (Nat.le_refl _),List.take_of_length_le (by omega)]
theorem take_at {xs:List Rat} {n j:Nat} (h:j<n):(xs.take n).getD j 0=xs.getD j 0:=by
 simp only[List.getD_eq_getElem?_getD,List.getElem?_take,if_pos h]
theorem m3 {xs:List Rat} {n B:Nat} (hB:1≤B) (h:∀j,sz (xs.getD j 0)≤B) (j:Nat):sz ((xs.take n).getD j 0)≤B:=by
 simp only[List.getD_eq_getElem?_getD,List.getElem?_take] at *
 by_cases z:j<n
 ·rw[if_pos z];exact h j
 ·rw[if_neg z];rw[Option.getD_none,sz0];exact hB
theorem qO {n:Nat} {rs:List Rw} {ms:List Rat} (ok:∀r∈rs,RowOk n r) (h:rs.length=ms.length) :
  (decide (dot (rg (rs++[(ofA n ((neg (tog n rs ms)).take n),1+(neg (tog n rs ms)).getD n 0)]) (ms++[1]))=1) && (List.range n).all (at0 (rs++[(ofA n ((neg (tog n rs ms)).take n),1+(neg (tog n rs ms)).getD n 0)]) (ms++[1])))=true:=by
 rw[Bool.and_eq_true]
 refine ⟨decide_eq_true ?_,List.all_eq_true.mpr fun j hj=>decide_eq_true ?_⟩
 ·rw[rg_last h,jl,iY ok];grind
 ·have hj':=List.mem_range.mp hj
  rw[mx_last h]
  show dot (mx rs ms j)+coef (ofA n ((neg (tog n rs ms)).take n)) j * 1=0
  rw[qZ hj',take_at hj',jl,fL ok hj'];grind
theorem due_mix {n:Nat} {rs:List Rw} {us:List Rat} (ok:∀r∈rs,RowOk n r):decide (tog n rs us=List.replicate n 0++[1])=(decide (dot (rg rs us)=1) && (List.range n).all (at0 rs us)):=by
 have key:tog n rs us=List.replicate n 0++[1]↔(dot (rg rs us)=1∧∀j,j<n→dot (mx rs us j)=0):=by
  constructor
  ·intro e
   refine ⟨?_,fun j hj=>?_⟩
   ·rw[←iY ok,e]
    simp[List.getD_eq_getElem?_getD]
   ·rw[←fL ok hj,e]
    simp[List.getD_eq_getElem?_getD,List.getElem?_append_left,hj]
  ·rintro ⟨h1,h2⟩
   apply List.ext_getElem?
   intro j
   have hl:=hX (n:=n) (rs:=rs) (ms:=us)
   rcases Nat.lt_trichotomy j n with z|z | z
   ·have e:=h2 j z
    rw[←fL ok z] at e
    rw[List.getElem?_append_left (by simpa using z),List.getElem?_replicate,if_pos z,List.getElem?_eq_getElem (by omega)]
    rw[List.getD_eq_getElem?_getD,List.getElem?_eq_getElem (by omega)] at e
    rw[show (tog n rs us)[j]=0 from e]
   ·subst z
    have e:=h1
    rw[←iY ok] at e
    rw[List.getElem?_append_right (by simp),List.getElem?_eq_getElem (by omega)]
    rw[List.getD_eq_getElem?_getD,List.getElem?_eq_getElem (by omega)] at e
    rw[show (tog j rs us)[j]=1 from e]
    simp
   ·rw[List.getElem?_eq_none (by omega),List.getElem?_eq_none (by simp;omega)]
 rw[Bool.eq_iff_iff,decide_eq_true_iff,Bool.and_eq_true,decide_eq_true_iff,List.all_eq_true,key]
 exact ⟨fun h=>⟨h.1,fun j hj=>decide_eq_true (h.2 j (List.mem_range.mp hj))⟩,fun h=>⟨h.1,fun j hj=>of_decide_eq_true (h.2 j (List.mem_range.mpr hj))⟩⟩
theorem oG {xs:List Rat} {y:Rat} (h:xs.length≤1000):oAdd.p (lD xs) (.lst [qD y])=some (lD (xs++[y])):=by
 rw[nh (by simp;omega)];simp
theorem add_r {rs:List Rw} {r:Rw} (h:rs.length≤1000):oAdd.p (rsD rs) (.lst [rwD r])=some (rsD (rs++[r])):=by
 rw[nh (by simp;omega)];simp
theorem ixm1 {n:Nat} (h:0<n):ixN n (-1)=some (n - 1):=by
 unfold ixN
 rw[if_neg (by decide),if_pos (by omega)]
 congr 1
 omega
theorem last_at {rs:List Rw} {r:Rw}:atI ((rs++[r]).map rwD) (-1)=some (rwD r):=by
 unfold atI
 rw[ixm1 (by simp),Option.bind_some,List.getElem?_map]
 simp
theorem rV {rs:List Rw} {r r':Rw}:((rs++[r]).map rwD).set (rs.length) (rwD r')=(rs++[r']).map rwD:=by
 rw[set_r]
 simp
noncomputable abbrev miI:Xd [7]:=(xIf (xB (xBin oEq (ai aK (ab (xVar 0) (ab (xC (.int 2)) xNil))) (xC (.int 0)))) (xSub 7 (xTup (ab (xBin oIx (xBin oIx (xVar 7) (xUn oNeg (xC (.int 1)))) (xC (.int 0))) (ab (xBin oIx (xLst (ab (xTup (ab (xC (.int 0)) (ab (xC (.int 1)) xNil))) (ab (xBin oIx (xVar 6) (xVar 1)) (ab (ai aH (ab (xVar 0) xNil)) xNil)))) (ai aK (ab (xVar 0) (ab (xC (.int 3)) xNil)))) xNil))) (xUn oNeg (xC (.int 1)))) xSkip)
theorem mi_mod {n:Nat} {x2 x3 x4 x5:Option D} {L:List Rat} {rs:List Rw} {ps:List Pt} {y:Rat} {s:Pen} (hL:n<L.length) (hs:∀j,sz (L.getD j 0)≤400) (hy:sz y≤410) :
  ∃y' s',miI.p [some .pen,some (.int (n:Int)),x2,x3,x4,x5,some (lD L),some (rsD (rs++[(ps,y)])),none,none,none,none] s=.nx [some .pen,some (.int (n:Int)),x2,x3,x4,x5,some (lD L),some (rsD (rs++[(ps,y')])),none,none,none,none] s'∧sz y'≤410:=by
 obtain ⟨d,s1,d0,d1,q1⟩:=bz (s:=s) (size:=2) (by decide) (by decide)
 simp only[cL,xB_p,aB,aA,aj,am,xC_p,aD,ar,PR.bind_ok,q1,ce,bR,Bool.false_eq_true,if_false,PR.of_some,PR.bl,PR.go_ok]
 by_cases z:d=0
 ·rw[decide_eq_true z,if_pos rfl]
  obtain ⟨m,s2,q2,hm⟩:=fi (s:=s1)
  obtain ⟨g,s3,g0,g1,q3⟩:=bz (s:=s2) (size:=3) (by decide) (by decide)
  obtain ⟨y',ey,hy'⟩:∃y':Rat,atI [.tup [.int 0,.int 1],qD (L.getD n 0),qD m] g=some (qD y')∧sz y'≤410:=by
   obtain rfl|rfl|rfl:g=0∨g=1∨g=2:=by omega
   ·exact ⟨0,rfl,by rw[sz0];decide⟩
   ·exact ⟨L.getD n 0,rfl,by have:=hs n;omega⟩
   ·exact ⟨m,rfl,by omega⟩
  refine ⟨y',s3,?_,hy'⟩
  have n1:oNeg.p (.int 1)=some (.int (-1)):=rfl
  rw[dZ,cS (v:=rwD (ps,y')) (s1:=s3) (j:=-1) (s2:=s3) (ds:=(rs++[(ps,y)]).map rwD) (n:=rs.length) (by
   simp only[aU,aj,aB,f7,am,aq,PR.bind_ok,xC_p,aD,n1,PR.of_some,ca,last_at,bO,z0,bF,ar,List.length_cons,List.length_nil,show (0+1+1:Nat)≤100000 by decide,show (0+1+1+1:Nat)≤100000 by decide,if_true,at_q hL,aA,q2,q3,ey]) (by
   simp only[f7,xC_p,aD,PR.bind_ok,n1,PR.of_some]) rfl (by rw[List.length_map,ixm1 (by simp)];simp),rV]
  rfl
 ·rw[decide_eq_false z,if_neg (by decide)]
  exact ⟨y,s1,rfl,hy⟩
theorem lend_qs {xs:List Rat}:lend (lD xs)=true:=by
 show flats (xs.map qD)=true
 induction xs with
 | nil=>rfl
 | cons q xs ih=>rw[List.map_cons,flats,ih];rfl
theorem mixes_p {n:Nat} {pss:List (List Pt)} {s:Pen} (hn:n≤7) (hl:pss.length≤8) (h:∀ps∈pss,PsOk n ps):∃s',gG.p [.pen,.int (n:Int),psD pss] s=.ok (.bl true) s':=by
 rw[nO (by rfl)];unfold gR
 rw[show dSt 12 [D.pen,.int (n:Int),psD pss]=[some .pen,some (.int (n:Int)),some (psD pss),none,none,none,none,none,none,none,none,none] from rfl]
 obtain ⟨rs,s1,q1,hrl,hrs⟩:=lY (ws:=[7]) (ws':=[]) (env:=[some .pen,some (.int (n:Int)),some (psD pss),none,none,none,none,none,none,none,none,none]) (s:=s) (n:=n) (i:=xItS (xVar 2)) (fm:=[0]) (e:=xTup (ab (xVar 0) (ab (ai aH (ab (xVar 1) xNil)) xNil))) (pss:=pss) (by omega) h (by rfl) (fun x s=>by
  show (xTup _:Xe []).p [some x,some .pen] s=_
  simp only[aU,aj,am,aq,aA,ar,PR.bind_ok]
  cases aH.p [.pen] s <;> rfl)
 rw[aF,aR,q1]
 simp only[PR.go_ok,List.set_cons_succ,List.set_cons_zero,PU.aw]
 obtain ⟨ms,s2,q2,hml,hms⟩:=fC (ws:=[7]) (ws':=[]) (env:=[some .pen,some (.int (n:Int)),some (psD pss),some (rsD rs),none,none,none,none,none,none,none,none]) (s:=s1) (n:=pss.length) (i:=xItS (xVar 2)) (fm:=[0]) (e:=ai aH (ab (xVar 1) xNil)) (ds:=pss.map pD) (by simp) (by omega) (by rfl) (fun x s=>rfl)
 rw[aF,aR,q2]
 simp only[PR.go_ok,List.set_cons_succ,List.set_cons_zero,PU.aw]
 have hlen:rs.length=ms.length:=by omega
 have ok:∀r∈rs,RowOk n r:=fun r hr=>(hrs r hr).1.row
 have tw1:TW (rs.zip ms)≤328:=by
  have:=nP (c:=41) (rs:=rs) (us:=ms) fun r hr q hq=>gb (A:=20) (B:=20) (hrs r hr).1.sz (hrs r hr).2 (hms q hq)
  have:=Nat.mul_le_mul_right 41 (show rs.length≤8 by omega)
  omega
 have t1:=eE (s:=s2) (n:=n) (rs:=rs) (ms:=ms) (by omega) (by omega) hlen ok (by omega)
 have hT:=fun j=>qm (n:=n) (rs:=rs) (ms:=ms) ok j
 have hTl:=hX (n:=n) (rs:=rs) (ms:=ms)
 have hmade:=qO (n:=n) ok hlen
 generalize tog n rs ms=T at t1 hT hTl hmade
 have hLl:(neg T).length=n+1:=by simp[neg,hTl]
 have hLs:∀j,sz ((neg T).getD j 0)≤400:=fun j=>by rw[jl,lg];have:=hT j;omega
 rw[aF,aR]
 simp only[aA,aj,am,aq,PR.bind_ok,ar,t1,PR.go_ok,List.set_cons_succ,List.set_cons_zero,PU.aw]
 have q3:=dm (ws:=[7]) (ws':=[]) (fm:=[]) (env:=[some .pen,some (.int (n:Int)),some (psD pss),some (rsD rs),some (lD ms),some (lD T),none,none,none,none,none,none]) (i:=xItS (xVar 5)) (t:=xTrue) (e:=xTup (ab (xBin oSub (xC (.int 0)) (xBin oIx (xVar 0) (xC (.int 0)))) (ab (xBin oIx (xVar 0) (xC (.int 1))) xNil))) (s0:=s2)
  (l:=T) qD (fun q=>qD (-q)) (fun _=>true) (s:=s2) (by rfl) (by omega) (fun q hq=>by
   refine ⟨rfl,fun _=>?_⟩
   show (xTup _:Xe []).p [some (qD q)] s2=_
   have ng:=oq q
   simp only[aU,aj,aB,am,PR.bind_ok,xC_p,aD,bO,z0,z1,PR.of_some,fN,ar,List.length_cons,List.length_nil,show (0+1+1:Nat)≤100000 by decide,if_true,ng])
 rw[bx,show (T.map fun q=>qD (-q))=(neg T).map qD by unfold neg;rw[List.map_map];rfl] at q3
 rw[aF,aR,q3]
 simp only[PR.go_ok,List.set_cons_succ,List.set_cons_zero,PU.aw]
 generalize hL:neg T=L at q3 hLl hLs hmade
 have hn':n<L.length:=by omega
 have o1:=kS (s:=s2) (n:=n) (xs:=L.take n) (by omega) (by simp;omega)
 have p1:bn.p [.tup [.int 1,.int 1],qD (L.getD n 0)] s2=.ok (qD (1+L.getD n 0)) s2:=eX (s:=s2) (p:=1) (q:=L.getD n 0) (by rw[sz1];have:=hLs n;omega)
 have hy0:sz (1+L.getD n 0)≤410:=by have:=d4 1 (L.getD n 0);rw[sz1] at this;have:=hLs n;omega
 have hA:∀p∈ofA n (L.take n),sz p.2≤410:=fun p hp=>by have:=pQ (m3 (n:=n) (by decide) hLs) p hp;omega
 have ok':∀y:Rat,∀r∈rs++[(ofA n (L.take n),y)],RowOk n r:=fun y r hr=>by
  rcases List.mem_append.mp hr with hr|hr
  ·exact ok r hr
  ·rw[List.mem_singleton.mp hr];exact j0
 have tw:∀(y:Rat) (us:List Rat),sz y≤410→(∀q∈us,sz q≤41)→TW ((rs++[(ofA n (L.take n),y)]).zip us)≤1700:=fun y us hy hu=>by
  have:=jI (c:=62) (d:=452) (R:=(ofA n (L.take n),y)) (rs:=rs) (us:=us) (fun r hr q hq=>gb (A:=20) (B:=41) (hrs r hr).1.sz (hrs r hr).2 (hu q hq)) fun q hq=>gb (A:=410) (B:=41) hA hy (hu q hq)
  have:=Nat.mul_le_mul_right 62 (show rs.length≤8 by omega)
  omega
 have hm1:∀q∈ms++[(1:Rat)],sz q≤20:=fun q hq=>by
  rcases List.mem_append.mp hq with hq|hq
  ·exact hms q hq
  ·rw[List.mem_singleton.mp hq,sz1];decide
 have tw0:=tw _ (ms++[1]) hy0 (fun q hq=>by have:=hm1 q hq;omega)
 have a1:=gw (s:=s2) (n:=n) (rs:=rs++[(ofA n (L.take n),1+L.getD n 0)]) (ms:=ms++[1]) (by omega) (jA (by simp;omega) (ok' _) (by omega))
 rw[hmade] at a1
 have e1:=add_r (rs:=rs) (r:=(ofA n (L.take n),1+L.getD n 0)) (by omega)
 have e2:oAdd.p (lD ms) (.lst [.tup [.int 1,.int 1]])=some (lD (ms++[1])):=oG (y:=1) (by omega)
 have l1:∀y:Rat,bh.p [rsD (rs++[(ofA n (L.take n),y)])]=some (rsD (rs++[(ofA n (L.take n),y)])):=fun y=>cg (by simp;omega)
 obtain ⟨y,s3,q4,hy⟩:=mi_mod (n:=n) (x2:=some (psD pss)) (x3:=some (rsD rs)) (x4:=some (lD ms)) (x5:=some (lD T)) (L:=L) (rs:=rs) (ps:=ofA n (L.take n)) (y:=1+L.getD n 0) (s:=s2) hn' hLs hy0
 obtain ⟨us,s4,q5,hul,hus⟩:=lT (xs:=ms++[1]) (s:=s3) (B:=20) (by simp;omega) hm1 (by decide) (by decide)
 have l2:bh.p [lD us]=some (lD us):=cg (by simp at hul ⊢;omega)
 have hle:(rs++[(ofA n (L.take n),y)]).length=us.length:=by simp at hul ⊢;omega
 have twu:=tw y us hy hus
 have a2:=gw (s:=s4) (n:=n) (rs:=rs++[(ofA n (L.take n),y)]) (ms:=us) (by omega) (jA (by simp;omega) (ok' _) (by omega))
 have t2:=eE (s:=s4) (n:=n) (rs:=rs++[(ofA n (L.take n),y)]) (ms:=us) (by omega) (by simp;omega) hle (ok' y) twu
 have du:=due_mix (n:=n) (us:=us) (ok' y)
 have e3:oAdd.p (lD (List.replicate n 0)) (.lst [.tup [.int 1,.int 1]])=some (lD (List.replicate n 0++[1])):=oG (y:=1) (by simp;omega)
 have n2:=d3 (neg:=false) (dA (k:=58) (xs:=us))
 have ib:isaT "bool" "bool"=true:=by decide
 refine ⟨s4,?_⟩
 simp only[aF,fW,aB,am,aq,PR.bind_ok,bF,aU,aj,aA,kM,kG,kE,kI,cutn,PR.of_some,ar,o1,xC_p,aD,List.length_cons,List.length_nil,show (0+1+1:Nat)≤100000 by decide,show (0+1:Nat)≤100000 by decide,if_true,ca,at_q hn',p1,e1,PR.go_ok,List.set_cons_succ,List.set_cons_zero,PU.aw,cL,xB_p,bK,l1,e2,a1,hU,isT,Bool.not_true,PR.bl,Bool.false_eq_true,if_false,cy]
 refine (congrArg (fun z:PS=>(z.then _).fin) q4).trans ?_
 simp only[PU.aw,aF,aR,aA,aj,am,aq,PR.bind_ok,aB,bF,aU,xC_p,aD,ar,List.length_cons,List.length_nil,show (0+1+1:Nat)≤100000 by decide,show (0+1:Nat)≤100000 by decide,if_true,e2,PR.of_some,q5,PR.go_ok,List.set_cons_succ,List.set_cons_zero,bK,l1,l2,a2,nI,t2,lend_qs,kP (show n≤1000 by omega),e3,ce,eqD_qs,Bool.false_eq_true,if_false,du,bH,ip,n2,Bool.not_false,PR.bl,f7,je,kJ,Option.map_some,List.any_cons,List.any_nil,ib,Bool.or_false,jo,bb,PU.bv]
theorem nice_js {k:Nat} {js:List Nat}:Nice (k+1) (.lst (js.map fun (j:Nat)=>D.int (j:Int))):=dC fun d hd=>by
 obtain ⟨j,_,rfl⟩:=List.mem_map.mp hd
 exact iP
theorem in_js {free:List Nat} (j:Nat):inD true (.int (j:Int)) (.lst (free.map fun (j:Nat)=>D.int (j:Int)))=some (.bl (!decide (j∈free))):=by
 have e:(free.map fun (j:Nat)=>D.int (j:Int))=(free.map fun (j:Nat)=>(j:Int)).map D.int:=by rw[List.map_map];rfl
 have:=qa (neg:=true) (x:=(j:Int)) (d:=.lst (free.map fun (j:Nat)=>D.int (j:Int))) (xs:=free.map fun (j:Nat)=>(j:Int)) (by rw[e];rfl)
 rw[this]
 have e2:decide ((j:Int)∈free.map fun (j:Nat)=>(j:Int))=decide (j∈free):=decide_eq_decide.mpr ⟨fun h=>by
  obtain ⟨k,hk,e⟩:=List.mem_map.mp h
  rwa [show j=k by omega],fun h=>List.mem_map.mpr ⟨j,h,rfl⟩⟩
 rw[e2];rfl
def want (place j:Nat):Rat:=if j=place then 1 else 0
theorem want_q {place j:Nat}:D.tup [.int (if decide ((j:Int)=(place:Int))=true then 1 else 0),.int 1]=qD (want place j):=by
 unfold want
 by_cases z:j=place
 ·subst z
  rw[if_pos rfl,decide_eq_true rfl,if_pos rfl];rfl
 ·rw[if_neg z,decide_eq_false (by omega),if_neg (by decide)];rfl
theorem rR {n place:Nat} {rs:List Rw} {us:List Rat} {free:List Nat} (ok:∀r∈rs,RowOk n r) (hp:place<n) (hf:place∉free) :
  ((List.range n).filter fun j=>!decide (j∈free)).all (fun j=>decide ((tog n rs us).getD j 0=want place j))=((rest n free place).all (at0 rs us) && decide (dot (mx rs us place)=1)):=by
 rw[Bool.eq_iff_iff,Bool.and_eq_true,List.all_eq_true,List.all_eq_true,decide_eq_true_iff]
 constructor
 ·intro h
  refine ⟨fun j hj=>?_,?_⟩
  ·obtain ⟨h1,h2⟩:=List.mem_filter.mp hj
   simp only[Bool.and_eq_true,Bool.not_eq_true',decide_eq_false_iff_not] at h2
   have:=of_decide_eq_true (h j (List.mem_filter.mpr ⟨h1,by simpa using h2.2⟩))
   rw[fL ok (List.mem_range.mp h1),want,if_neg h2.1] at this
   exact decide_eq_true this
  ·have:=of_decide_eq_true (h place (List.mem_filter.mpr ⟨List.mem_range.mpr hp,by simpa using hf⟩))
   rw[fL ok hp,want,if_pos rfl] at this
   exact this
 ·rintro ⟨h1,h2⟩ j hj
  obtain ⟨h3,h4⟩:=List.mem_filter.mp hj
  refine decide_eq_true ?_
  rw[fL ok (List.mem_range.mp h3)]
  by_cases z:j=place
  ·subst z
   rw[h2,want,if_pos rfl]
  ·rw[want,if_neg z]
   exact of_decide_eq_true (h1 j (List.mem_filter.mpr ⟨h3,by simp only[Bool.not_eq_true',decide_eq_false_iff_not] at h4;simp[z,h4]⟩))
noncomputable abbrev heB:Xd [7]:=(xSeq (xSet 13 (ai bE (ab (xVar 1) (ab (xVar 10) (ab (xVar 11) xNil)))))
 (xSeq (xSet 14 (aP 1 [13,5,12] (xItA iR1 (ab (xVar 1) xNil)) (ws':=[]) (xNm 0) (xB (xBin (oIn true) (xVar 0) (xVar 3))) (xBin oEq (xBin oIx (xVar 1) (xVar 0)) (xTup (ab (xCb cInt (ab (xBin oEq (xVar 0) (xVar 2)) xNil)) (ab (xC (.int 1)) xNil))))))
 (xSeq (xSet 15 (xLst (ab (xCb bh (ab (xVar 12) xNil)) (ab (xCb bh (ab (xVar 11) xNil)) xNil))))
 (xSeq (xSet 16 (ai ie (ab (xVar 1) (ab (xCb bh (ab (xVar 10) xNil)) (ab (xBin oIx (xVar 15) (xC (.int 0))) (ab (xVar 5) (ab (xBin oIx (xVar 15) (xC (.int 1))) xNil)))))))
 (xIf (xOr (xNot (xB (xUn (oIsi ["bool"]) (xVar 16)))) (xOr (xB (xBin oNe (xVar 16) (xBin (oIn true) (xC (.bl false)) (xVar 14)))) (xB (xBin oNe (xVar 15) (xLst (ab (xVar 12) (ab (xVar 11) xNil))))))) (xRet (xC (.bl false))) xSkip)))))
abbrev jsD (js:List Nat):D:=.lst (js.map fun (j:Nat)=>D.int (j:Int))
theorem he_turn {n place:Nat} {x0 x2 x3 x4 x6 x7 x8 x9 x13 x14 x15 x16:Option D} {rs:List Rw} {us:List Rat} {free:List Nat} {s:Pen} (hn:n≤7) (hl:rs.length≤100) (he:rs.length=us.length) (hfl:free.length≤100) (ok:∀r∈rs,RowOk n r) (hW:TW (rs.zip us)≤1700) (hp:place<n) (hf:place∉free) :
  ∃y13 y14 y15 y16,heB.p [x0,some (.int (n:Int)),x2,x3,x4,some (.int (place:Int)),x6,x7,x8,x9,some (rsD rs),some (lD us),some (jsD free),x13,x14,x15,x16] s=.nx [x0,some (.int (n:Int)),x2,x3,x4,some (.int (place:Int)),x6,x7,x8,x9,some (rsD rs),some (lD us),some (jsD free),y13,y14,y15,y16] s:=by
 have t:=eE (s:=s) (n:=n) (rs:=rs) (ms:=us) (by omega) (by omega) he ok hW
 have ho:=holds_p (s:=s) (n:=n) (place:=place) (free:=free) (rs:=rs) (ms:=us) (by omega) (jA (by omega) ok (by omega))
 have du:=rR (us:=us) ok hp hf
 have hTl:=hX (n:=n) (rs:=rs) (ms:=us)
 have q:=dm (ws:=[7]) (ws':=[]) (fm:=[13,5,12]) (env:=[x0,some (.int (n:Int)),x2,x3,x4,some (.int (place:Int)),x6,x7,x8,x9,some (rsD rs),some (lD us),some (jsD free),some (lD (tog n rs us)),x14,x15,x16]) (i:=xItA iR1 (ab (xVar 1) xNil)) (t:=xB (xBin (oIn true) (xVar 0) (xVar 3))) (e:=xBin oEq (xBin oIx (xVar 1) (xVar 0)) (xTup (ab (xCb cInt (ab (xBin oEq (xVar 0) (xVar 2)) xNil)) (ab (xC (.int 1)) xNil)))) (s0:=s)
  (l:=List.range n) (fun (j:Nat)=>D.int (j:Int)) (fun j=>.bl (decide ((tog n rs us).getD j 0=want place j))) (fun j=>!decide (j∈free)) (s:=s) (by
   simp only[cu,aj,am,aq,PR.bind_ok,ar]
   rw[dQ (by omega),Int.toNat_natCast,fO];rfl) (by simp;omega) (fun j hj=>by
   have hj':=List.mem_range.mp hj
   refine ⟨?_,fun _=>?_⟩
   ·show (xB _:Xt []).p [some (.int (j:Int)),some (lD (tog n rs us)),some (.int (place:Int)),some (jsD free)] s=_
    simp only[xB_p,aB,am,aq,PR.bind_ok,iz,in_js,PR.of_some,PR.bl]
   ·show (xBin oEq _ _:Xe []).p [some (.int (j:Int)),some (lD (tog n rs us)),some (.int (place:Int)),some (jsD free)] s=_
    have w:=want_q (place:=place) (j:=j)
    simp only[aB,aU,aj,bK,am,aq,PR.bind_ok,ca,at_q (show j<(tog n rs us).length by omega),PR.of_some,ce,bR,Bool.false_eq_true,if_false,ph,xC_p,aD,ar,List.length_cons,List.length_nil,show (0+1+1:Nat)≤100000 by decide,if_true,w,nR])
 have l1:bh.p [jsD free]=some (jsD free):=cg (by simp;omega)
 have l2:bh.p [lD us]=some (lD us):=cg (by simp;omega)
 have l3:bh.p [rsD rs]=some (rsD rs):=cg (by simp;omega)
 have nf:=iU (((List.range n).filter fun j=>!decide (j∈free)).map fun j=>decide ((tog n rs us).getD j 0=want place j))
 rw[cI,du] at nf
 have n2:eqD true (.lst [jsD free,lD us]) (.lst [jsD free,lD us])=some (.bl (!true)):=d3 (dC (k:=59) fun d hd=>by
  simp only[List.mem_cons,List.not_mem_nil,or_false] at hd
  rcases hd with rfl|rfl
  ·exact nice_js (k:=58)
  ·exact dA (k:=57))
 have ib:isaT "bool" "bool"=true:=by decide
 rw[fh] at q
 refine ⟨some (lD (tog n rs us)),some (.lst ((((List.range n).filter fun j=>!decide (j∈free)).map fun j=>decide ((tog n rs us).getD j 0=want place j)).map .bl)),some (.lst [jsD free,lD us]),some (.bl ((rest n free place).all (at0 rs us) && decide (dot (mx rs us place)=1))),?_⟩
 rw[aF,aR]
 simp only[aA,aj,am,aq,PR.bind_ok,ar,t,PR.go_ok,List.set_cons_succ,List.set_cons_zero,PU.aw]
 rw[aF,aR,q]
 simp only[PR.go_ok,List.set_cons_succ,List.set_cons_zero,PU.aw,aF,aR,bF,aj,bK,am,aq,PR.bind_ok,ar,l1,l2,l3,PR.of_some,List.length_cons,List.length_nil,show (0+1+1:Nat)≤100000 by decide,if_true,aA,aB,xC_p,aD,hU,ca,z0,z1,ho,cL,kK,jE,xB_p,f7,je,kJ,Option.map_some,List.any_cons,List.any_nil,ib,Bool.or_false,PR.bl,Bool.not_true,Bool.false_eq_true,if_false,iz,nf,eD,jo,bb,n2,cy]
theorem re {ps:List Pt}:lend (pD ps)=true:=by
 show flats (ps.map ptD)=true
 induction ps with
 | nil=>rfl
 | cons q xs ih=>rw[List.map_cons,flats,ih];rfl
theorem js_of {n place:Nat} {r:List D} (h:∀y∈r,∃i:Nat,y=.int (i:Int)∧i≠place):∃free:List Nat,r=free.map (fun (j:Nat)=>D.int (j:Int))∧place∉free:=by
 obtain ⟨free,e,hf⟩:=jt h
 exact ⟨free,e,fun z=>hf place z rfl⟩
theorem held_p {n:Nat} {pss:List (List Pt)} {s:Pen} (hn:n≤7) (h0:0<n) (hl:pss.length≤8) (h:∀ps∈pss,PsOk n ps):∃s',iX.p [.pen,.int (n:Int),psD pss] s=.ok (.bl true) s':=by
 rw[pF (by rfl)];unfold iM
 rw[show dSt 17 [D.pen,.int (n:Int),psD pss]=[some .pen,some (.int (n:Int)),some (psD pss),none,none,none,none,none,none,none,none,none,none,none,none,none,none] from rfl]
 obtain ⟨rs,s1,q1,hrl,hrs⟩:=lY (ws:=[7]) (ws':=[]) (env:=[some .pen,some (.int (n:Int)),some (psD pss),none,none,none,none,none,none,none,none,none,none,none,none,none,none]) (s:=s) (n:=n) (i:=xItS (xVar 2)) (fm:=[0]) (e:=xTup (ab (xVar 0) (ab (ai aH (ab (xVar 1) xNil)) xNil))) (pss:=pss) (by omega) h (by rfl) (fun x s=>by
  show (xTup _:Xe []).p [some x,some .pen] s=_
  simp only[aU,aj,am,aq,aA,ar,PR.bind_ok]
  cases aH.p [.pen] s <;> rfl)
 rw[aF,aR,q1]
 simp only[PR.go_ok,List.set_cons_succ,List.set_cons_zero,PU.aw]
 obtain ⟨ms,s2,q2,hml,hms⟩:=fC (ws:=[7]) (ws':=[]) (env:=[some .pen,some (.int (n:Int)),some (psD pss),some (rsD rs),none,none,none,none,none,none,none,none,none,none,none,none,none]) (s:=s1) (n:=pss.length) (i:=xItS (xVar 2)) (fm:=[0]) (e:=ai aH (ab (xVar 1) xNil)) (ds:=pss.map pD) (by simp) (by omega) (by rfl) (fun x s=>rfl)
 rw[aF,aR,q2]
 simp only[PR.go_ok,List.set_cons_succ,List.set_cons_zero,PU.aw]
 have hlen:rs.length=ms.length:=by omega
 have ok:∀r∈rs,RowOk n r:=fun r hr=>(hrs r hr).1.row
 have tw1:TW (rs.zip ms)≤328:=by
  have:=nP (c:=41) (rs:=rs) (us:=ms) fun r hr q hq=>gb (A:=20) (B:=20) (hrs r hr).1.sz (hrs r hr).2 (hms q hq)
  have:=Nat.mul_le_mul_right 41 (show rs.length≤8 by omega)
  omega
 obtain ⟨pl,s3,p0,p1,q3⟩:=bz (s:=s2) (size:=(n:Int)) (by omega) (by omega)
 obtain ⟨place,rfl⟩:=e9 p0
 have hp:place<n:=by omega
 rw[aF,aR]
 simp only[aA,aj,am,aq,PR.bind_ok,ar,q3,PR.go_ok,List.set_cons_succ,List.set_cons_zero,PU.aw]
 obtain ⟨r,s4,q4,hfl,hr⟩:=oQ (ws:=[7]) (ws':=[]) (env:=[some .pen,some (.int (n:Int)),some (psD pss),some (rsD rs),some (lD ms),some (.int (place:Int)),none,none,none,none,none,none,none,none,none,none,none]) (s:=s3) (s0:=s3) (fm:=[5,0]) (i:=xItA iR1 (ab (xVar 1) xNil))
  (t:=xAnd (xB (xBin oNe (xVar 0) (xVar 1))) (xB (xBin oEq (ai aK (ab (xVar 2) (ab (xC (.int 2)) xNil))) (xC (.int 0))))) (e:=xVar 0) (ds:=rngD 0 n) (fun y=>∃i:Nat,y=.int (i:Int)∧i≠place) (by
   simp only[cu,aj,am,aq,PR.bind_ok,ar]
   rw[dQ (by omega),Int.toNat_natCast];rfl) (by rw[cX];omega) (fun x hx s=>by
   obtain ⟨i,rfl,hi0,hi1⟩:=qL hx
   obtain ⟨i,rfl⟩:=e9 hi0
   by_cases z:i=place
   ·refine ⟨false,s,?_,fun z=>by cases z⟩
    show (xAnd _ _:Xt []).p [some (.int (i:Int)),some (.int (place:Int)),some .pen] s=_
    have e:decide ((i:Int)=(place:Int))=true:=decide_eq_true (by omega)
    simp only[fM,xB_p,aB,am,aq,PR.bind_ok,eD,bR,if_true,e,Bool.not_true,PR.of_some,PR.bl,Bool.false_eq_true,if_false]
   ·obtain ⟨g,s5,g0,g1,q5⟩:=bz (s:=s) (size:=2) (by decide) (by decide)
    refine ⟨decide (g=0),s5,?_,fun _=>⟨.int (i:Int),s5,rfl,i,rfl,z⟩⟩
    show (xAnd _ _:Xt []).p [some (.int (i:Int)),some (.int (place:Int)),some .pen] s=_
    have e:decide ((i:Int)=(place:Int))=false:=decide_eq_false (by omega)
    simp only[fM,xB_p,aB,aA,aj,ar,am,aq,PR.bind_ok,eD,ce,bR,if_true,e,Bool.not_false,PR.of_some,PR.bl,xC_p,aD,q5,Bool.false_eq_true,if_false])
 obtain ⟨free,rfl,hf⟩:=js_of (n:=n) hr
 have hfl':free.length≤100:=by rw[cX,List.length_map] at hfl;omega
 rw[aF,aR,q4]
 simp only[PR.go_ok,List.set_cons_succ,List.set_cons_zero,PU.aw]
 have t1:=eE (s:=s4) (n:=n) (rs:=rs) (ms:=ms) (by omega) (by omega) hlen ok (by omega)
 have hT:=fun j=>qm (n:=n) (rs:=rs) (ms:=ms) ok j
 have hTl:=hX (n:=n) (rs:=rs) (ms:=ms)
 generalize tog n rs ms=T at t1 hT hTl
 have hLl:(neg (T.take n)).length=n:=by simp[neg,hTl]
 have hLs:∀j,sz ((neg (T.take n)).getD j 0)≤400:=fun j=>by
  rw[jl,lg]
  have:=m3 (n:=n) (xs:=T) (B:=1+TW (rs.zip ms)) (by omega) hT j
  omega
 have q5:=eW (ws:=[7]) (ws':=[]) (fm:=[]) (env:=[some .pen,some (.int (n:Int)),some (psD pss),some (rsD rs),some (lD ms),some (.int (place:Int)),some (jsD free),none,none,none,none,none,none,none,none,none,none]) (i:=xItS (xSl (ai bE (ab (xVar 1) (ab (xVar 3) (ab (xVar 4) xNil)))) xNo (xPt (xVar 1)))) (t:=xTrue) (e:=xTup (ab (xBin oSub (xC (.int 0)) (xVar 0)) (ab (xVar 1) xNil))) (s0:=s4)
  (l:=T.take n) (fun q=>D.int q.num) (fun q=>D.int (q.den:Int)) (fun q=>qD (-q)) (fun _=>true) (s:=s4) (by
   simp only[eQ,kM,aA,aj,am,aq,PR.bind_ok,ar,t1,kG,kE,kI,cutn,PR.of_some];rfl) (by simp;omega) (fun q hq=>by
   refine ⟨rfl,fun _=>?_⟩
   show (xTup _:Xe []).p [some (.int q.num),some (.int (q.den:Int))] s4=_
   have ng:=oq q
   simp only[aU,aj,aB,am,aq,PR.bind_ok,xC_p,aD,PR.of_some,fN,ar,List.length_cons,List.length_nil,show (0+1+1:Nat)≤100000 by decide,if_true,ng])
 rw[bx,show ((T.take n).map fun q=>qD (-q))=(neg (T.take n)).map qD by unfold neg;rw[List.map_map];rfl] at q5
 rw[aF,fW,q5]
 simp only[PR.go_ok,List.set_cons_succ,List.set_cons_zero,PU.aw]
 generalize neg (T.take n)=L at q5 hLl hLs
 have hpl:place<L.length:=by omega
 have p1':bn.p [qD (L.getD place 0),.tup [.int 1,.int 1]] s4=.ok (qD (L.getD place 0+1)) s4:=eX (s:=s4) (p:=L.getD place 0) (q:=1) (by rw[sz1];have:=hLs place;omega)
 have hL2:∀j,sz ((L.set place (L.getD place 0+1)).getD j 0)≤410:=fun j=>by
  by_cases z:place=j
  ·subst z
   have:=d4 (L.getD place 0) 1
   rw[sz1] at this
   have:=hLs place
   simp only[List.getD_eq_getElem?_getD] at *
   rw[List.getElem?_set_self hpl]
   show sz ((L[place]?).getD 0+1)≤410
   omega
  ·rw[qB z];have:=hLs j;omega
 have hL2l:(L.set place (L.getD place 0+1)).length=n:=by simp[hLl]
 rw[aF,dZ,cS (v:=qD (L.getD place 0+1)) (s1:=s4) (j:=(place:Int)) (s2:=s4) (ds:=L.map qD) (n:=place) (by
  simp only[aA,aj,aB,am,aq,PR.bind_ok,ca,at_q hpl,PR.of_some,aU,xC_p,aD,ar,List.length_cons,List.length_nil,show (0+1+1:Nat)≤100000 by decide,if_true,p1']) (by rfl) rfl (by rw[List.length_map];exact cP hpl),hV]
 simp only[List.set_cons_succ,List.set_cons_zero,PU.aw]
 generalize L.set place (L.getD place 0+1)=M at hL2 hL2l
 have o1:=kS (s:=s4) (n:=n) (xs:=M) (by omega) (by omega)
 obtain ⟨y,s5,q6,hy⟩:=fi (s:=s4)
 have e1:=add_r (rs:=rs) (r:=(ofA n M,y)) (by omega)
 have e2:oAdd.p (lD ms) (.lst [.tup [.int 1,.int 1]])=some (lD (ms++[1])):=oG (y:=1) (by omega)
 have hm1:∀q∈ms++[(1:Rat)],sz q≤20:=fun q hq=>by
  rcases List.mem_append.mp hq with hq|hq
  ·exact hms q hq
  ·rw[List.mem_singleton.mp hq,sz1];decide
 obtain ⟨us,s6,q7,hul,hus⟩:=lT (xs:=ms++[1]) (s:=s5) (B:=20) (by simp;omega) hm1 (by decide) (by decide)
 have hA:∀p∈ofA n M,sz p.2≤410:=pQ hL2
 have ok':∀r∈rs++[(ofA n M,y)],RowOk n r:=fun r hr=>by
  rcases List.mem_append.mp hr with hr|hr
  ·exact ok r hr
  ·rw[List.mem_singleton.mp hr];exact j0
 have tw:∀(us:List Rat),(∀q∈us,sz q≤41)→TW ((rs++[(ofA n M,y)]).zip us)≤1700:=fun us hu=>by
  have:=jI (c:=62) (d:=452) (R:=(ofA n M,y)) (rs:=rs) (us:=us) (fun r hr q hq=>gb (A:=20) (B:=41) (hrs r hr).1.sz (hrs r hr).2 (hu q hq)) fun q hq=>gb (A:=410) (B:=41) hA (by show sz y≤410;omega) (hu q hq)
  have:=Nat.mul_le_mul_right 62 (show rs.length≤8 by omega)
  omega
 have tw0:=tw (ms++[1]) (fun q hq=>by have:=hm1 q hq;omega)
 have tw2:=tw us hus
 simp only[aF,aR,aB,bF,aU,aj,nI,aA,am,aq,PR.bind_ok,ar,o1,re,if_true,q6,List.length_cons,List.length_nil,show (0+1+1:Nat)≤100000 by decide,show (0+1:Nat)≤100000 by decide,e1,PR.of_some,PR.go_ok,List.set_cons_succ,List.set_cons_zero,PU.aw,xC_p,aD,e2,q7]
 obtain ⟨e8,s8,q8,z10,z11,z12,z13,z14,z15,z16,hE8,hs8⟩:=fT (g:=(xGp (xGc (xNm 10) (xGc (xNm 11) (xGc (xNm 12) xGl))) 3:Xg [7]).p) (b:=heB.p)
  (fun j env s'=>∃z10 z11 z12 z13 z14 z15 z16,env=[some .pen,some (.int (n:Int)),some (psD pss),some (rsD rs),some (lD ms),some (.int (place:Int)),some (jsD free),some (lD M),some (rsD (rs++[(ofA n M,y)])),some (lD us),z10,z11,z12,z13,z14,z15,z16]∧s'=s6)
  [.tup [rsD (rs++[(ofA n M,y)]),lD (ms++[1]),jsD []],.tup [rsD (rs++[(ofA n M,y)]),lD us,jsD []],.tup [rsD (rs++[(ofA n M,y)]),lD us,jsD free],.tup [rsD rs,lD ms,jsD free]] 0 [some .pen,some (.int (n:Int)),some (psD pss),some (rsD rs),some (lD ms),some (.int (place:Int)),some (jsD free),some (lD M),some (rsD (rs++[(ofA n M,y)])),some (lD us),none,none,none,none,none,none,none] s6 ⟨_,_,_,_,_,_,_,rfl,rfl⟩ (fun j env s' d ⟨z10,z11,z12,z13,z14,z15,z16,hE,hs⟩ hd=>by
   subst hE hs
   obtain ⟨rs',us',fr,rfl,c1,c2,c3,c4,c5,c6⟩:∃(rs':List Rw) (us':List Rat) (fr:List Nat),d=.tup [rsD rs',lD us',jsD fr]∧rs'.length≤100∧rs'.length=us'.length∧fr.length≤100∧(∀r∈rs',RowOk n r)∧TW (rs'.zip us')≤1700∧place∉fr:=by
    have:=List.mem_of_getElem? hd
    simp only[List.mem_cons,List.not_mem_nil,or_false] at this
    rcases this with rfl|rfl|rfl|rfl
    ·exact ⟨_,_,_,rfl,by simp;omega,by simp;omega,by simp,ok',tw0,by simp⟩
    ·exact ⟨_,_,_,rfl,by simp;omega,by simp at hul ⊢;omega,by simp,ok',tw2,by simp⟩
    ·exact ⟨_,_,_,rfl,by simp;omega,by simp at hul ⊢;omega,hfl',ok',tw2,hf⟩
    ·exact ⟨_,_,_,rfl,by omega,hlen,hfl',ok,by omega,hf⟩
   obtain ⟨y13,y14,y15,y16,q⟩:=he_turn (x0:=some .pen) (x2:=some (psD pss)) (x3:=some (rsD rs)) (x4:=some (lD ms)) (x6:=some (jsD free)) (x7:=some (lD M)) (x8:=some (rsD (rs++[(ofA n M,y)]))) (x9:=some (lD us)) (x13:=z13) (x14:=z14) (x15:=z15) (x16:=z16) (s:=s') hn c1 c2 c3 c4 c5 hp c6
   exact ⟨_,_,s',rfl,q,_,_,_,_,_,_,_,rfl,rfl⟩)
 subst hE8 hs8
 refine ⟨s8,?_⟩
 simp only[eS,eQ,bF,aU,aj,am,aq,PR.bind_ok,aB,xC_p,aD,ar,List.length_cons,List.length_nil,Nat.zero_le,show (0+1+1:Nat)≤100000 by decide,show (0+1:Nat)≤100000 by decide,show (0+1+1+1:Nat)≤100000 by decide,show (0+1+1+1+1:Nat)≤100000 by decide,if_true,e2,PR.of_some]
 refine (congrArg (fun z:PS=>(z.then _).fin) q8).trans ?_
 rfl
theorem body_p {s:Pen}:∃env' s',dY.p [none,none,some .pen,none,none] s=.nx env' s':=by
 obtain ⟨n,s1,n0,n1,q1⟩:=bz (s:=s) (size:=8) (by decide) (by decide)
 obtain ⟨n,rfl⟩:=e9 n0
 have hn:n≤7:=by omega
 obtain ⟨m,s2,m0,m1,q2⟩:=bz (s:=s1) (size:=9) (by decide) (by decide)
 obtain ⟨m,rfl⟩:=e9 m0
 obtain ⟨r,s3,q3,hl,hr⟩:=gK (ws:=[]) (ws':=[]) (env:=[none,none,some .pen,some (.int (n:Int)),none]) (s:=s1) (s0:=s2) (fm:=[2,3]) (i:=xItA iR1 (ab (ai aK (ab (xVar 2) (ab (xC (.int 9)) xNil))) xNil))
  (e:=ai d5 (ab (xVar 1) (ab (xVar 2) (ab (xC (.int 3)) xNil)))) (ds:=rngD 0 m) (fun y=>∃ps:List Pt,y=pD ps∧PsOk n ps) (by
   simp only[cu,aj,aA,am,aq,xC_p,aD,PR.bind_ok,ar,q2]
   rw[dQ (by omega),Int.toNat_natCast];rfl) (by rw[cX];omega) (fun x hx s=>by
   obtain ⟨ps,s5,q5,hp⟩:=parts_p (s:=s) (n:=n) (by omega)
   refine ⟨pD ps,s5,?_,ps,rfl,hp⟩
   show (ai d5 _:Xe []).p [some x,some .pen,some (.int (n:Int))] s=_
   simp only[aA,aj,am,aq,xC_p,aD,PR.bind_ok,ar,q5])
 obtain ⟨pss,rfl,hp⟩:=jt hr
 have hpl:pss.length≤8:=by rw[cX,List.length_map] at hl;omega
 obtain ⟨s4,a1⟩:=qb (s:=s3) hn hpl hp
 obtain ⟨s5,a2⟩:=ways_p (s:=s4) hn hpl hp
 obtain ⟨s6,a3⟩:=mixes_p (s:=s5) hn hpl hp
 unfold dY
 have e1:(xSet 3 (ai aK (ab (xVar 2) (ab (xC (.int 8)) xNil))):Xd []).p [none,none,some .pen,none,none] s=.nx [none,none,some .pen,some (.int (n:Int)),none] s1:=by
  simp only[aR,aA,aj,am,aq,xC_p,aD,PR.bind_ok,ar,q1,PR.go_ok,List.set_cons_succ,List.set_cons_zero]
 rw[aF,e1,PU.aw,aF,aR,q3]
 simp only[PR.go_ok,List.set_cons_succ,List.set_cons_zero,PU.aw,aF,cL,kK,jE,xB_p,aA,aj,am,aq,PR.bind_ok,ar,a1,a2,a3,PR.bl,Bool.not_true,Bool.false_eq_true,if_false,cy,fM,aB,xC_p,aD,qf,PR.of_some]
 by_cases z:0<n
 ·obtain ⟨s7,a4⟩:=held_p (s:=s6) hn z hpl hp
  rw[decide_eq_true (show (0:Int)<(n:Int) by omega)]
  simp only[if_true,a4,PR.bl,PR.bind_ok,Bool.not_true,PR.go_ok,Bool.false_eq_true,if_false]
  exact ⟨_,_,rfl⟩
 ·rw[decide_eq_false (show ¬(0:Int)<(n:Int) by omega)]
  simp only[Bool.false_eq_true,if_false,PR.go_ok]
  exact ⟨_,_,rfl⟩
def half:Rat:=⟨1,2,by decide,by decide⟩
theorem nk:sz half≤2:=by decide +kernel
theorem rZ:(2:Rat) * half=1:=by decide +kernel
theorem two_sz:sz 2≤2:=by decide +kernel
theorem tail_p {s:Pen}:gL.p [none,none,none,none,none] s=.rt (.bl true) s:=by
 have a1:cA.p [.lst [],.lst []] s=.ok (.bl true) s:=fJ (s:=s) (rs:=[]) (xs:=[]) (by simp) (by simp)
 have a2:dL.p [.lst [.tup [.tup [],.tup [.int 1,.int 2]]],.lst []] s=.ok (.bl true) s:=by
  have:=kT (s:=s) (rs:=[([],half)]) (xs:=[]) (by simp) (fun r hr=>by
   rw[List.mem_singleton.mp hr]
   exact ⟨by simp,by simp,by simp[prs,tot],by have:=nk;show sz half≤1900;omega⟩)
  exact this
 have a3:cE.p [.int 0,.lst [.tup [.tup [],.tup [.int 2,.int 1]]],.lst [.tup [.int 1,.int 2]]] s=.ok (.bl true) s:=by
  have:=gw (s:=s) (n:=0) (rs:=[([],2)]) (ms:=[half]) (by simp) (jA (by simp) (fun r hr=>by
   rw[List.mem_singleton.mp hr]
   exact ⟨by simp,by simp⟩) (by
   have:=gb (r:=([],2)) (m:=half) (A:=2) (B:=2) (by simp) two_sz nk
   show TW [(([],2),half)]≤1800
   rw[dD,pN]
   dsimp only
   omega))
  have e:dot (rg [([],2)] [half])=1:=by
   show 0+2 * half=1
   rw[rZ];grind
  rw[e,decide_eq_true rfl] at this
  exact this
 have a4:cE.p [.int 0,.lst [],.lst []] s=.ok (.bl false) s:=by
  have:=gw (s:=s) (n:=0) (rs:=[]) (ms:=[]) (by simp) (jA (by simp) (by simp) (by simp[TW]))
  have e:dot (rg [] [])=0:=rfl
  rw[e,decide_eq_false (by decide)] at this
  exact this
 have f1:(oIs false).p (.bl false) (.bl false)=some (.bl true):=rfl
 unfold gL
 simp only[aF,cL,kK,xB_p,aB,aA,aj,bF,aU,ar,xC_p,aD,hU,PR.bind_ok,List.length_cons,List.length_nil,Nat.zero_le,show (0+1+1:Nat)≤100000 by decide,show (0+1:Nat)≤100000 by decide,if_true,a1,a2,isT,Bool.not_true,PR.of_some,PR.bl,Bool.false_eq_true,if_false,PR.go_ok,cy,PU.aw,bH,ip,a3,a4,f1]
theorem mV {ns:List Int} {k:Nat} (hk:k<ns.length):atI (ns.map PV.int) (k:Int)=some (.int ns[k]):=L2.cH (by simp[hk])
theorem lj {h:MH}:opPow (.int 10) (.int 18) h=.ok (.int (10 ^ 18)) h:=k9 (by decide)
theorem rn {h:MH}:opPow (.int 10) (.int 15) h=.ok (.int (10 ^ 15)) h:=k9 (by decide)
theorem qE {h:MH} {ns:List Int} {k:Nat} (hk:k<64):∃m c:Int,dh [.frl (ns.map .int),.int k] h=.ok (.loc h.length) (h++[.lst [.int m,.int c,.int 0]]):=by
 unfold dh
 have k1:∀{i:Int} {h:MH},opMul (.int 7919) (.int i) h=.ok (.int (7919 * i)) h:=eN (by decide)
 have k2:∀{i:Int} {h:MH},opMul (.int 48271) (.int i) h=.ok (.int (48271 * i)) h:=eN (by decide)
 have k3:∀{i:Int} {h:MH},opMul (.int 40009) (.int i) h=.ok (.int (40009 * i)) h:=eN (by decide)
 have n3:∀{a b c:PV} {h:MH},newL [a,b,c] h=.ok (.loc h.length) (h++[.lst [a,b,c]]):=nY (by simp)
 have fin:∀cell:Int,∃m c:Int,(mSeq (mIf (mB (mBin opGe (mCB fAbs (ae (mVar 2) mNil)) (mBin opPow (mC (.int 10)) (mC (.int 18))))) (mRet (mLst (ae (mC (.int 1)) (ae (mCB fAbs (ae (mVar 2) mNil)) (ae (mC (.int 0)) mNil))))) mSkip)
   (mRet (mLst (ae (mC (.int 0)) (ae (mBin opAdd (mBin opMod (mVar 2) (mC (.int 2147483587))) (mBin opMul (mC (.int 40009)) (mVar 1))) (ae (mC (.int 0)) mNil)))))) [some (.frl (ns.map .int)),some (.int k),some (.int cell)] h=.rt (.loc h.length) (h++[.lst [.int m,.int c,.int 0]]):=fun cell=>by
  by_cases z:(10:Int) ^ 18≤(if cell<0 then -cell else cell)
  ·exact ⟨1,(if cell<0 then -cell else cell),by simp[lj,n3,z,-Int.reducePow]⟩
  ·exact ⟨0,cell.fmod 2147483587+40009 * k,by simp[lj,n3,z,k3,dG,-Int.reducePow]⟩
 have fin':∀cell:Int,∃m c:Int,((mSeq (mIf (mB (mBin opGe (mCB fAbs (ae (mVar 2) mNil)) (mBin opPow (mC (.int 10)) (mC (.int 18))))) (mRet (mLst (ae (mC (.int 1)) (ae (mCB fAbs (ae (mVar 2) mNil)) (ae (mC (.int 0)) mNil))))) mSkip)
   (mRet (mLst (ae (mC (.int 0)) (ae (mBin opAdd (mBin opMod (mVar 2) (mC (.int 2147483587))) (mBin opMul (mC (.int 40009)) (mVar 1))) (ae (mC (.int 0)) mNil)))))) [some (.frl (ns.map .int)),some (.int k),some (.int cell)] h).fin=.ok (.loc h.length) (h++[.lst [.int m,.int c,.int 0]]):=fun cell=>by
  obtain ⟨m,c,q⟩:=fin cell
  exact ⟨m,c,by rw[q];rfl⟩
 have lift:∀cell:Int,(mSeq (mSet 2 (mBin opAdd (mBin opMul (mC (.int 7919)) (mVar 1)) (mC (.int 11))))
 (mIf (mB (mBin opLt (mVar 1) (mCB fMin (ae (mCB fLen (ae (mVar 0) mNil)) (ae (mC (.int 63)) mNil))))) (mSet 2 (mBin opIx (mVar 0) (mVar 1))) (mIf (mB (mBin opGt (mCB fLen (ae (mVar 0) mNil)) (mC (.int 0)))) (mSet 2 (mBin opAdd (mBin opMod (mBin opIx (mVar 0) (mBin opMod (mVar 1) (mCB fMin (ae (mCB fLen (ae (mVar 0) mNil)) (ae (mC (.int 63)) mNil))))) (mBin opPow (mC (.int 10)) (mC (.int 15)))) (mBin opMul (mC (.int 48271)) (mVar 1)))) mSkip))) [some (.frl (ns.map .int)),some (.int k),none] h=.nx [some (.frl (ns.map .int)),some (.int k),some (.int cell)] h →
   ∃m c:Int,mDef 3 2 m_l_pen [.frl (ns.map .int),.int k] h=.ok (.loc h.length) (h++[.lst [.int m,.int c,.int 0]]):=fun cell q=>by
  obtain ⟨m,c,q2⟩:=fin' cell
  refine ⟨m,c,(im (by rfl)).trans ?_⟩
  rw[←q2]
  unfold m_l_pen
  simp only[iy] at q ⊢
  have e0:bL 3 [PV.frl (ns.map .int),PV.int k]=[some (.frl (ns.map .int)),some (.int k),none]:=rfl
  rw[e0]
  generalize (mSet 2 (mBin opAdd (mBin opMul (mC (.int 7919)) (mVar 1)) (mC (.int 11)))) [some (.frl (ns.map .int)),some (.int k),none] h=o1 at q ⊢
  cases o1 with
  | nx σ1 h1 =>
   simp only[MM.aw,iy] at q ⊢
   rw[q]
   rfl
  | _=>cases q
 have hlim:∃lim:Nat,(if (63:Int)<(ns.length:Int) then (63:Int) else (ns.length:Int))=(lim:Int)∧lim≤ns.length∧(0<ns.length→0<lim):=by
  by_cases z:(63:Int)<(ns.length:Int)
  ·exact ⟨63,by rw[if_pos z];rfl,by omega,by omega⟩
  ·exact ⟨ns.length,by rw[if_neg z],by omega,by omega⟩
 obtain ⟨lim,el,hl1,hl2⟩:=hlim
 by_cases h1:k<lim
 ·refine lift (ns[k]'(by omega)) ?_
  simp[k1,el,h1,mV (show k<ns.length by omega)]
 ·by_cases h0:0<ns.length
  ·have hm0:(lim:Int)≠0:=by have:=hl2 h0;omega
   have hj:k % lim<ns.length:=Nat.lt_of_lt_of_le (Nat.mod_lt _ (hl2 h0)) hl1
   have ej:(k:Int).fmod (lim:Int)=((k % lim:Nat):Int):=by rw[Int.fmod_eq_emod_of_nonneg _ (by omega)];rfl
   refine lift ((ns[k % lim]'hj).fmod (10 ^ 15)+48271 * k) ?_
   have p0:((10:Int) ^ 15)≠0:=by decide
   have a1:=mV hj
   rw[Int.natCast_emod] at a1
   simp[k1,el,h1,h0,dG hm0,ej,a1,rn,dG p0,k2,-Int.reducePow]
  ·have h0':ns=[]:=List.length_eq_zero_iff.mp (by omega)
   refine lift (7919 * k+11) ?_
   have z:¬((k:Int)<(lim:Int)):=by omega
   simp[k1,el,z,h0]
theorem gf {lo:Int} {c:Nat}:(br lo c).length=c:=by simp[br]
theorem oT {lo:Int} {c i:Nat} {x:PV} (h:(br lo c)[i]?=some x):x=.int (lo+i)∧i<c:=by
 unfold br at h
 rw[List.getElem?_map,Option.map_eq_some_iff] at h
 obtain ⟨k,hk,rfl⟩:=h
 have:=List.getElem?_eq_some_iff.mp hk
 obtain ⟨a,b⟩:=this
 simp at a b
 subst b
 exact ⟨rfl,a⟩
theorem oP {c i:Nat} {x:PV} (h:(br 0 c)[i]?=some x):x=.int (i:Int)∧i<c:=by
 have:=oT h;simpa using this
def KS (σ:PSt) (o:SOut):Prop:=match o with
 | .nx σ' _=>σ'.length=σ.length∧σ'[0]?=σ[0]?
 | .bk σ' _=>σ'.length=σ.length∧σ'[0]?=σ[0]?
 | .ct σ' _=>σ'.length=σ.length∧σ'[0]?=σ[0]?
 | _=>True
theorem KS.of {σ σ1:PSt} {o:SOut} (h:σ1.length=σ.length∧σ1[0]?=σ[0]?) (k:KS σ1 o):KS σ o:=by
 cases o with
 | nx a b=>exact ⟨k.1.trans h.1,k.2.trans h.2⟩
 | bk a b=>exact ⟨k.1.trans h.1,k.2.trans h.2⟩
 | ct a b=>exact ⟨k.1.trans h.1,k.2.trans h.2⟩
 | _=>trivial
def K0 (m:Mst):Prop:=∀σ h,KS σ (m σ h)
theorem k_skip:K0 mSkip:=fun σ h=>⟨rfl,rfl⟩
theorem k_ex {α:Type} {m:Mx α} {k:α→Mst} (hk:∀v,K0 (k v)):K0 (mEx m k):=fun σ h=>by
 unfold mEx
 cases m σ h with
 | ok v h1=>exact hk v σ h1
 | _=>trivial
theorem k_ret {m:Mx PV}:K0 (mRet m):=fun σ h=>by
 unfold mRet
 cases m σ h with
 | ok v h1=>trivial
 | _=>trivial
theorem k_put {i:Nat} {v:PV} {σ:PSt} (h:i≠0):(σ.set i (some v)).length=σ.length∧(σ.set i (some v))[0]?=σ[0]?:=⟨by simp,List.getElem?_set_ne h⟩
theorem k_set {i:Nat} {m:Mx PV} (h:i≠0):K0 (mSet i m):=k_ex fun v σ h1=>k_put h
theorem k_seq {a b:Mst} (ha:K0 a) (hb:K0 b):K0 (mSeq a b):=fun σ h=>by
 have:=ha σ h
 unfold mSeq
 cases e:a σ h with
 | nx σ1 h1=>rw[e] at this;exact KS.of this (hb σ1 h1)
 | bk σ1 h1=>rw[e] at this;exact this
 | ct σ1 h1=>rw[e] at this;exact this
 | _=>trivial
theorem k_if {c:Mx Bool} {a b:Mst} (ha:K0 a) (hb:K0 b):K0 (mIf c a b):=k_ex fun x=>by
 cases x
 ·exact hb
 ·exact ha
section
variable {ws:List Nat}
theorem lf {a b:Xd ws} (ha:K0 a.m) (hb:K0 b.m):K0 (xSeq a b).m:=k_seq ha hb
theorem qr {i:Nat} {e:Xe ws} {hi:ws.contains i=false} {hz:e.fz=true} (h:i≠0):K0 (xSet i e hi hz).m:=k_set h
theorem kx_rf {t:Xt ws} {e:Xe ws}:K0 (xIf t (xRet e) xSkip).m:=k_if k_ret k_skip
end
theorem k_body:K0 dY.m:=by
 unfold dY
 exact lf (qr (by decide)) (lf (qr (by decide)) (lf kx_rf kx_rf))
theorem five {σ:PSt} {x:Option PV} (h:σ.length=5) (h0:σ[0]?=some x):∃a1 a2 a3 a4,σ=[x,a1,a2,a3,a4]:=by
 match σ,h with
 | [b0,b1,b2,b3,b4],_ =>
  cases h0
  exact ⟨b1,b2,b3,b4,rfl⟩
theorem rO:m_law=mSeq (mFor (cb (ae (mC (.int 3)) mNil)) (gNm 1) (mSeq (mSet 2 (av dh (ae (mVar 0) (ae (mVar 1) mNil)))) dY.m)) gL.m:=rfl
theorem turn_m {h:MH} {a b:Int} {z0 z1 a3 a4:Option PV}:∃σ' h',dY.m [z0,z1,some (.loc h.length),a3,a4] (h++[.lst [.int a,.int b,.int 0]])=.nx σ' h'∧σ'.length=5∧σ'[0]?=some z0∧∃q s,bD h' q s:=by
 have pn:bD (h++[.lst [.int a,.int b,.int 0]]) h.length (a,b,0):=app_0
 obtain ⟨env',s',q⟩:=body_p (s:=(a,b,0))
 have c:PU.Cx h.length (h++[.lst [.int a,.int b,.int 0]]) (h++[MO.lst [.int a,.int b,.int 0]]).length [h.length] [h.length] [] [z0,z1,some (.loc h.length),a3,a4] [none,none,some .pen,none,none] (a,b,0):=by
  refine ⟨fun o ho=>?_,fun _ h=>h,fun o ho=>?_,by simp,Nat.le_refl _,pn,⟨rfl,fun i d e _=>?_,fun i d e hi=>by cases hi⟩⟩
  ·have:o=h.length:=by simpa using ho
   subst this;simp
  ·have:o=h.length:=by simpa using ho
   subst this;simp
  ·match i,e with
   | 0,e=>cases e
   | 1,e=>cases e
   | 2,e=>cases e;exact ⟨_,rfl,rfl⟩
   | 3,e=>cases e
   | 4,e=>cases e
   | n+5,e=>simp at e
 have k:=dY.ok c fun i j hi _ _ d _ _ e=>by cases hi
 rw[q] at k
 obtain ⟨σ',h',e,O',_,cx,_⟩:=k
 have kk:=k_body [z0,z1,some (.loc h.length),a3,a4] (h++[.lst [.int a,.int b,.int 0]])
 rw[e] at kk
 exact ⟨σ',h',e,kk.1,kk.2,_,_,cx.pen⟩
theorem tail_m {h:MH} {q:Nat} {s:Pen} {b0 b1 b2 b3 b4:Option PV} (pn:bD h q s):∃h',gL.m [b0,b1,b2,b3,b4] h=.rt (.bl true) h':=by
 have c:PU.Cx q h h.length [q] [q] [] [b0,b1,b2,b3,b4] [none,none,none,none,none] s:=by
  refine ⟨fun o ho=>?_,fun _ h=>h,fun o ho=>?_,by simp,Nat.le_refl _,pn,⟨rfl,fun i d e _=>?_,fun i d e hi=>by cases hi⟩⟩
  ·rw[List.mem_singleton.mp ho];exact aW pn
  ·rw[List.mem_singleton.mp ho];exact aW pn
  ·match i,e with
   | 0,e=>cases e
   | 1,e=>cases e
   | 2,e=>cases e
   | 3,e=>cases e
   | 4,e=>cases e
   | n+5,e=>simp at e
 have k:=gL.ok c fun i j hi _ _ d _ _ e=>by cases hi
 rw[tail_p] at k
 obtain ⟨v,h',e,_,_,_,rv,_⟩:=k
 rw[show v=PV.bl true from rv] at e
 exact ⟨h',e⟩
theorem law_true (ns:List Int) (hn:ns.length≤63):∃h',f_law [.frl (ns.map .int)] []=.ok (.bl true) h':=by
 unfold f_law
 rw[im (by rfl),rO]
 have er:cb (ae (mC (.int 3)) mNil) [some (.frl (ns.map .int)),none,none,none,none] []=.ok ⟨br 0 3,[]⟩ []:=itR1 (n:=3) rfl (by omega)
 obtain ⟨σ',h',e,hσ,hσ0,hpen⟩:=mS (it:=⟨br 0 3,[]⟩) (g:=gNm 1) (b:=mSeq (mSet 2 (av dh (ae (mVar 0) (ae (mVar 1) mNil)))) dY.m)
  (fun j σ h=>σ.length=5∧σ[0]?=some (some (.frl (ns.map .int)))∧(0<j→∃q s,bD h q s)) (br 0 3) 0 [some (.frl (ns.map .int)),none,none,none,none] [] ⟨rfl,rfl,fun z=>by omega⟩ (fun _ _ _ _=>ok_none.mpr trivial) (fun m σ h x ⟨hl,h0,_⟩ hx=>by
   obtain ⟨a1,a2,a3,a4,rfl⟩:=five hl h0
   obtain ⟨rfl,hm⟩:=oP hx
   obtain ⟨a,b,qp⟩:=qE (h:=h) (ns:=ns) (k:=m) (by omega)
   obtain ⟨σ2,h2,e2,k1,k2,k3⟩:=turn_m (h:=h) (a:=a) (b:=b) (z0:=some (.frl (ns.map .int))) (z1:=some (.int (m:Int))) (a3:=a3) (a4:=a4)
   refine ⟨_,_,σ2,h2,rfl,?_,k1,k2,fun _=>k3⟩
   rw[iy]
   have e1:mSet 2 (av dh (ae (mVar 0) (ae (mVar 1) mNil))) [some (.frl (ns.map .int)),some (.int (m:Int)),a2,a3,a4] h=.nx [some (.frl (ns.map .int)),some (.int (m:Int)),some (.loc h.length),a3,a4] (h++[.lst [.int a,.int b,.int 0]]):=by
    simp -implicitDefEqProofs [qp]
   refine (congrArg (fun z:SOut=>z.then _) e1).trans ?_
   rw[MM.aw]
   exact e2)
 obtain ⟨q,s,pn⟩:=hpen (by rw[gf];omega)
 obtain ⟨b1,b2,b3,b4,rfl⟩:=five hσ hσ0
 obtain ⟨h2,e2⟩:=tail_m (b0:=some (.frl (ns.map .int))) (b1:=b1) (b2:=b2) (b3:=b3) (b4:=b4) pn
 refine ⟨h2,?_⟩
 have e0:bL 5 [PV.frl (ns.map .int)]=[some (.frl (ns.map .int)),none,none,none,none]:=rfl
 rw[e0,iy,mFor_ap,er,aC,e,MM.aw,e2]
 rfl
end Law
namespace Law
open PySem PySem.Spec PyProof.Rows L2 MM
set_option maxHeartbeats 4000000
theorem aQ {X:Cx} {N:List Str} {scope sc:Scope} {vars frees:List Str} {fm:List Nat} (hsc:X.env.scope=sc) (h1:scope.kind=.function) (h7:fm.map (fun i=>N[i]?)=frees.map some) (h:(∀y∈scope.names,y.2≠.cell)∧(∀y∈scope.names,y.2=.local→scope.names.lookup y.1=some .local)∧(∀x∈vars,scope.names.lookup x=some .local)∧(∀x∈frees,scope.names.lookup x=some .free)∧(∀y∈scope.names,y.2=.free→y.1∈frees)∧(∀x∈frees,sc.names.lookup x=some .cell)):CompOk X N scope vars frees fm :=
 compOk hsc h1 h.1 h.2.1 h.2.2.1 h.2.2.2.1 h.2.2.2.2.1 h7 h.2.2.2.2.2
def top (i:Nat):Stmt:=PySem.Challenge.pw_fewfills_k37_answers_ways_mixes.main.body.getD i (.Pass ⟨0,0,0,0⟩)
abbrev cG:Stmt:=top 3
abbrev eB:List Str:=["pairs","wanted","top","bottom","a","b"]
abbrev jD:List Str:=[]
abbrev P_comes_to:List Str:=["pairs","wanted"]
theorem oI {X:Cx} {k:Nat} (hsc:X.env.scope=al cG) (g:Good X eB eB jD k) (dc:DefCx X):MSs X (aJ cG) m_comes_to :=
 (ah (aG g 2 rfl rfl ag)
 (ah (aG g 3 rfl rfl ag)
 (ah (dW g (bm (ac g 0 rfl)) (cr g (aO (az g 4 rfl rfl) (aO (az g 5 rfl rfl) bW))) (ah (aG g 2 rfl rfl (au bj (au ba (au ba (ac g 2 rfl) (ax (ac g 4 rfl) ag (fun _ _=>rfl))) (ax (ac g 5 rfl) ag (fun _ _=>rfl))) (au ba (au ba (ax (ac g 4 rfl) ag (fun _ _=>rfl)) (ax (ac g 5 rfl) ag (fun _ _=>rfl))) (ac g 3 rfl))))
 (ay (aG g 3 rfl rfl (au ba (au ba (ac g 3 rfl) (ax (ac g 4 rfl) ag (fun _ _=>rfl))) (ax (ac g 5 rfl) ag (fun _ _=>rfl)))))))
 (ay (aM (bI (bM g.room) (au ba (ac g 2 rfl) (ax (ac g 1 rfl) ag (fun _ _=>rfl))) (au ba (ax (ac g 1 rfl) ag (fun _ _=>rfl)) (ac g 3 rfl)) (nomark _)))))))
theorem mz:FnScope eB P_comes_to (al cG):=⟨rfl,rfl,rfl,by decide +kernel,rfl,by decide +kernel,by decide +kernel⟩
theorem mq:aT "comes_to" cG P_comes_to:=fun _ _ _ _ _ _ us hl=>match us,hl with | [_,_],_=>rfl
abbrev cf:Stmt:=top 4
abbrev dr:List Str:=["parts","x"]
abbrev g9:List Str:=[]
abbrev P_part_pairs:List Str:=["parts","x"]
theorem lO {X:Cx} {k:Nat} (hsc:X.env.scope=al cf) (g:Good X dr dr g9 k) (dc:DefCx X):MSs X (aJ cf) m_part_pairs :=
 (ay (aM (bU g (vars:=["j","number"]) (frees:=["x"]) (G':=[]) (fm:=[1]) (aQ (hsc:=hsc) rfl rfl (by decide +kernel)) (by decide +kernel) (by decide +kernel) (by decide +kernel) (bm (ac g 0 rfl)) (fun Y y1 y2 y3 y4 y5 y6 g=>⟨(cr g (aO (az g 0 rfl rfl) (aO (az g 1 rfl rfl) bW))),bg,(aE (aa (ac g 1 rfl) (aa (ax (ac g 2 rfl) (ac g 0 rfl) (fun _ _=>rfl)) af)))⟩))))
theorem kB:FnScope dr P_part_pairs (al cf):=⟨rfl,rfl,rfl,by decide +kernel,rfl,by decide +kernel,by decide +kernel⟩
theorem kx:aT "part_pairs" cf P_part_pairs:=fun _ _ _ _ _ _ us hl=>match us,hl with | [_,_],_=>rfl
abbrev cK:Stmt:=top 5
abbrev d9:List Str:=["rows","mix","place"]
abbrev jv:List Str:=["zip"]
abbrev P_mixed_at:List Str:=["rows","mix","place"]
theorem ox {X:Cx} {k:Nat} (hsc:X.env.scope=al cK) (g:Good X d9 d9 jv k) (dc:DefCx X) (n11:X.mg "zip"=none) (n3:X.mg "dict"=none) (v_NOUGHT:TupG X.K X.mg "NOUGHT" 0 1):MSs X (aJ cK) m_mixed_at :=
 (ay (aM (bU g (vars:=["row","number"]) (frees:=["place"]) (G':=["dict","NOUGHT"]) (fm:=[2]) (aQ (hsc:=hsc) rfl rfl (by decide +kernel)) (by decide +kernel) (by decide +kernel) (by decide +kernel) (o4 g (j:=0) rfl n11 (aa (ac g 0 rfl) (aa (ac g 1 rfl) af))) (fun Y y1 y2 y3 y4 y5 y6 g=>have n3:Y.mg "dict"=none:=y4.symm▸n3;have v_NOUGHT:TupG Y.K Y.mg "NOUGHT" 0 1:=y3.symm▸y4.symm▸v_NOUGHT;⟨(cr g (aO (az g 0 rfl rfl) (aO (az g 1 rfl rfl) bW))),bg,(aE (aa (me_dget g (j:=0) rfl n3 (ax (ac g 0 rfl) ag (fun _ _=>rfl)) (aa (ac g 2 rfl) (aa (fV g (q:=1) rfl v_NOUGHT) af))) (aa (ac g 1 rfl) af)))⟩))))
theorem mk:FnScope d9 P_mixed_at (al cK):=⟨rfl,rfl,rfl,by decide +kernel,rfl,by decide +kernel,by decide +kernel⟩
theorem mJ:aT "mixed_at" cK P_mixed_at:=fun _ _ _ _ _ _ us hl=>match us,hl with | [_,_,_],_=>rfl
abbrev cz:Stmt:=top 6
abbrev dO:List Str:=["rows","x"]
abbrev iJ:List Str:=["all"]
abbrev P_is_answer:List Str:=["rows","x"]
theorem mH {X:Cx} {k:Nat} (hsc:X.env.scope=al cz) (g:Good X dO dO iJ k) (dc:DefCx X) (c1:Cal X "part_pairs" P_part_pairs cC k) (c0:Cal X "comes_to" P_comes_to bt k) (n1:X.mg "all"=none):MSs X (aJ cz) m_is_answer :=
 (ay (aM (bi g 0 rfl (jq g) n1 PyProof.Rows.Boot.«all» (aa (bU g (vars:=["parts","right"]) (frees:=["x"]) (G':=["comes_to","part_pairs"]) (fm:=[1]) (aQ (hsc:=hsc) rfl rfl (by decide +kernel)) (by decide +kernel) (by decide +kernel) (by decide +kernel) (bm (ac g 0 rfl)) (fun Y y1 y2 y3 y4 y5 y6 g=>have c0:=c0.at y1 y2 y3 y4 y5;have c1:=c1.at y1 y2 y3 y4 y5;⟨(cr g (aO (az g 0 rfl rfl) (aO (az g 1 rfl rfl) bW))),bg,(ak g (j:=0) rfl c0 (aa (ak g (j:=1) rfl c1 (aa (ac g 0 rfl) (aa (ac g 2 rfl) af))) (aa (ac g 1 rfl) af)))⟩)) af))))
theorem lP:FnScope dO P_is_answer (al cz):=⟨rfl,rfl,rfl,by decide +kernel,rfl,by decide +kernel,by decide +kernel⟩
theorem lz:aT "is_answer" cz P_is_answer:=fun _ _ _ _ _ _ us hl=>match us,hl with | [_,_],_=>rfl
abbrev dv:Stmt:=top 7
abbrev gu:List Str:=["rows","way"]
abbrev lA:List Str:=["all"]
abbrev P_is_way:List Str:=["rows","way"]
theorem qQ {X:Cx} {k:Nat} (hsc:X.env.scope=al dv) (g:Good X gu gu lA k) (dc:DefCx X) (c1:Cal X "part_pairs" P_part_pairs cC k) (c0:Cal X "comes_to" P_comes_to bt k) (n1:X.mg "all"=none) (v_NOUGHT:TupG X.K X.mg "NOUGHT" 0 1):MSs X (aJ dv) m_is_way :=
 (ay (aM (bi g 0 rfl (jq g) n1 PyProof.Rows.Boot.«all» (aa (bU g (vars:=["parts","right"]) (frees:=["way"]) (G':=["comes_to","part_pairs","NOUGHT"]) (fm:=[1]) (aQ (hsc:=hsc) rfl rfl (by decide +kernel)) (by decide +kernel) (by decide +kernel) (by decide +kernel) (bm (ac g 0 rfl)) (fun Y y1 y2 y3 y4 y5 y6 g=>have c0:=c0.at y1 y2 y3 y4 y5;have c1:=c1.at y1 y2 y3 y4 y5;have v_NOUGHT:TupG Y.K Y.mg "NOUGHT" 0 1:=y3.symm▸y4.symm▸v_NOUGHT;⟨(cr g (aO (az g 0 rfl rfl) (aO (az g 1 rfl rfl) bW))),bg,(ak g (j:=0) rfl c0 (aa (ak g (j:=1) rfl c1 (aa (ac g 0 rfl) (aa (ac g 2 rfl) af))) (aa (fV g (q:=2) rfl v_NOUGHT) af)))⟩)) af))))
theorem p5:FnScope gu P_is_way (al dv):=⟨rfl,rfl,rfl,by decide +kernel,rfl,by decide +kernel,by decide +kernel⟩
theorem qh:aT "is_way" dv P_is_way:=fun _ _ _ _ _ _ us hl=>match us,hl with | [_,_],_=>rfl
abbrev dH:Stmt:=top 8
abbrev gB:List Str:=["n","rows","mix","rights"]
abbrev lG:List Str:=["zip","comes_to","ONE","all","range"]
abbrev P_is_mix:List Str:=["n","rows","mix"]
theorem r9 {X:Cx} {k:Nat} (hsc:X.env.scope=al dH) (g:Good X gB gB lG k) (dc:DefCx X) (c2:Cal X "mixed_at" P_mixed_at cO k) (c0:Cal X "comes_to" P_comes_to bt k) (n9:X.mg "range"=none) (n1:X.mg "all"=none) (n11:X.mg "zip"=none) (v_NOUGHT:TupG X.K X.mg "NOUGHT" 0 1) (v_ONE:TupG X.K X.mg "ONE" 1 1):MSs X (aJ dH) m_is_mix :=
 (ah (bA g 3 rfl rfl (by revert hsc;generalize X.env=env;intro h;cases env;cases h;rfl) (vars:=["row","number"]) (frees:=[]) (G':=[]) (fm:=[]) (aQ (hsc:=hsc) rfl rfl (by decide +kernel)) (by decide +kernel) (by decide +kernel) (by decide +kernel) (o4 g (j:=0) rfl n11 (aa (ac g 1 rfl) (aa (ac g 2 rfl) af))) (fun Y y1 y2 y3 y4 y5 y6 g=>⟨(cr g (aO (az g 0 rfl rfl) (aO (az g 1 rfl rfl) bW))),bg,(aE (aa (ax (ac g 0 rfl) ag (fun _ _=>rfl)) (aa (ac g 1 rfl) af)))⟩))
 (ay (aM (eY (ak g (j:=1) rfl c0 (aa (ac g 3 rfl) (aa (fV g (q:=2) rfl v_ONE) af))) (ju (bi g 3 rfl (jq g) n1 PyProof.Rows.Boot.«all» (aa (bU g (vars:=["j"]) (frees:=["rows","mix"]) (G':=["comes_to","mixed_at","NOUGHT"]) (fm:=[1,2]) (aQ (hsc:=hsc) rfl rfl (by decide +kernel)) (by decide +kernel) (by decide +kernel) (by decide +kernel) (bG (g.gl _ (aL (i:=4) rfl)) n9 (aa (ac g 0 rfl) af)) (fun Y y1 y2 y3 y4 y5 y6 g=>have c0:=c0.at y1 y2 y3 y4 y5;have c2:=c2.at y1 y2 y3 y4 y5;have v_NOUGHT:TupG Y.K Y.mg "NOUGHT" 0 1:=y3.symm▸y4.symm▸v_NOUGHT;⟨(az g 0 rfl rfl),bg,(ak g (j:=0) rfl c0 (aa (ak g (j:=1) rfl c2 (aa (ac g 1 rfl) (aa (ac g 2 rfl) (aa (ac g 0 rfl) af)))) (aa (fV g (q:=2) rfl v_NOUGHT) af)))⟩)) af)))))))
theorem pI:FnScope gB P_is_mix (al dH):=⟨rfl,rfl,rfl,by decide +kernel,rfl,by decide +kernel,by decide +kernel⟩
theorem p8:aT "is_mix" dH P_is_mix:=fun _ _ _ _ _ _ us hl=>match us,hl with | [_,_,_],_=>rfl
abbrev eK:Stmt:=top 9
abbrev io:List Str:=["n","rows","free","place","mix","others"]
abbrev nz:List Str:=["range","all","comes_to","mixed_at","ONE"]
abbrev P_holds:List Str:=["n","rows","free","place","mix"]
theorem b_holds {X:Cx} {k:Nat} (hsc:X.env.scope=al eK) (g:Good X io io nz k) (dc:DefCx X) (c2:Cal X "mixed_at" P_mixed_at cO k) (c0:Cal X "comes_to" P_comes_to bt k) (n1:X.mg "all"=none) (n9:X.mg "range"=none) (v_ONE:TupG X.K X.mg "ONE" 1 1) (v_NOUGHT:TupG X.K X.mg "NOUGHT" 0 1):MSs X (aJ eK) m_holds :=
 (ah (bA g 5 rfl rfl (by revert hsc;generalize X.env=env;intro h;cases env;cases h;rfl) (vars:=["j"]) (frees:=["place","free"]) (G':=[]) (fm:=[3,2]) (aQ (hsc:=hsc) rfl rfl (by decide +kernel)) (by decide +kernel) (by decide +kernel) (by decide +kernel) (bG (g.gl _ (aL (i:=0) rfl)) n9 (aa (ac g 0 rfl) af)) (fun Y y1 y2 y3 y4 y5 y6 g=>⟨(az g 0 rfl rfl),(dE (MW.mt (gP (aS (dP g.room) (ac g 0 rfl) (ac g 1 rfl) (nomark _)) (fP (aS (ia g.room true) (ac g 0 rfl) (ac g 2 rfl) rfl))))),(ac g 0 rfl)⟩))
 (ah (bT (ff (eU (bi g 1 rfl (jq g) n1 PyProof.Rows.Boot.«all» (aa (bU g (vars:=["j"]) (frees:=["rows","mix"]) (G':=["comes_to","mixed_at","NOUGHT"]) (fm:=[1,4]) (aQ (hsc:=hsc) rfl rfl (by decide +kernel)) (by decide +kernel) (by decide +kernel) (by decide +kernel) (bm (ac g 5 rfl)) (fun Y y1 y2 y3 y4 y5 y6 g=>have c0:=c0.at y1 y2 y3 y4 y5;have c2:=c2.at y1 y2 y3 y4 y5;have v_NOUGHT:TupG Y.K Y.mg "NOUGHT" 0 1:=y3.symm▸y4.symm▸v_NOUGHT;⟨(az g 0 rfl rfl),bg,(ak g (j:=0) rfl c0 (aa (ak g (j:=1) rfl c2 (aa (ac g 1 rfl) (aa (ac g 2 rfl) (aa (ac g 0 rfl) af)))) (aa (fV g (q:=2) rfl v_NOUGHT) af)))⟩)) af)))) (ay (aM bN)) bp)
 (ay (aM (ak g (j:=2) rfl c0 (aa (ak g (j:=3) rfl c2 (aa (ac g 1 rfl) (aa (ac g 4 rfl) (aa (ac g 3 rfl) af)))) (aa (fV g (q:=4) rfl v_ONE) af)))))))
theorem rQ:FnScope io P_holds (al eK):=⟨rfl,rfl,rfl,by decide +kernel,rfl,by decide +kernel,by decide +kernel⟩
theorem qY:aT "holds" eK P_holds:=fun _ _ _ _ _ _ us hl=>match us,hl with | [_,_,_,_,_],_=>rfl
abbrev eM:Stmt:=top 11
abbrev ij:List Str:=["_law_script","_law_k","_law_cell"]
abbrev m4:List Str:=["min","len","abs"]
abbrev P_l_pen:List Str:=["_law_script","_law_k"]
theorem b_l_pen {X:Cx} {k:Nat} (hsc:X.env.scope=al eM) (g:Good X ij ij m4 k) (dc:DefCx X) (n0:X.mg "abs"=none) (n6:X.mg "len"=none) (n8:X.mg "min"=none):MSs X (aJ eM) m_l_pen :=
 (ah (aG g 2 rfl rfl (au bj (au ba ag (ac g 1 rfl)) ag))
 (ah (bT (aS oj_lt (ac g 1 rfl) (bi g 0 rfl (pw g) n8 PyProof.Rows.Boot.«min» (aa (bi g 1 rfl eT n6 PyProof.Rows.Boot.«len» (aa (ac g 0 rfl) af)) (aa ag af))) (nomark _)) (ay (aG g 2 rfl rfl (ax (ac g 0 rfl) (ac g 1 rfl) (fun _ _=>rfl)))) (ay (bT (aS kN (bi g 1 rfl eT n6 PyProof.Rows.Boot.«len» (aa (ac g 0 rfl) af)) ag (nomark _)) (ay (aG g 2 rfl rfl (au bj (au cq (ax (ac g 0 rfl) (au cq (ac g 1 rfl) (bi g 0 rfl (pw g) n8 PyProof.Rows.Boot.«min» (aa (bi g 1 rfl eT n6 PyProof.Rows.Boot.«len» (aa (ac g 0 rfl) af)) (aa ag af)))) (fun _ _=>rfl)) (au gX ag ag)) (au ba ag (ac g 1 rfl))))) bp)))
 (ah (bT (aS oj_ge (bi g 2 rfl jb n0 PyProof.Rows.Boot.«abs» (aa (ac g 2 rfl) af)) (au gX ag ag) (nomark _)) (ay (aM (aN (aa ag (aa (bi g 2 rfl jb n0 PyProof.Rows.Boot.«abs» (aa (ac g 2 rfl) af)) (aa ag af)))))) bp)
 (ay (aM (aN (aa ag (aa (au bj (au cq (ac g 2 rfl) ag) (au ba ag (ac g 1 rfl))) (aa ag af)))))))))
theorem si:FnScope ij P_l_pen (al eM):=⟨rfl,rfl,rfl,by decide +kernel,rfl,by decide +kernel,by decide +kernel⟩
theorem qV:aT "_law_pen" eM P_l_pen:=fun _ _ _ _ _ _ us hl=>match us,hl with | [_,_],_=>rfl
abbrev dy:Stmt:=top 12
abbrev gr:List Str:=["_law_pen_here","_law_size","_law_number_here","_law_drawn"]
abbrev ll:List Str:=[]
abbrev P_l_draw:List Str:=["_law_pen_here","_law_size"]
theorem rW {X:Cx} {k:Nat} (hsc:X.env.scope=al dy) (g:Good X gr gr ll k) (dc:DefCx X):MSs X (aJ dy) m_l_draw :=
 (ah (cV (au bj (ax (ac g 0 rfl) ag (fun _ _=>rfl)) ag) (cU (ac g 0 rfl) ag))
 (ah (bT (aS (bM g.room) (ax (ac g 0 rfl) ag (fun _ _=>rfl)) ag (nomark _)) (ah (aG g 3 rfl rfl (au cq (ax (ac g 0 rfl) ag (fun _ _=>rfl)) (ac g 1 rfl)))
 (ah (cV (au kR (ax (ac g 0 rfl) ag (fun _ _=>rfl)) (ac g 1 rfl)) (cU (ac g 0 rfl) ag))
 (ay (aM (ac g 3 rfl))))) bp)
 (ah (aG g 2 rfl rfl (au cq (au ba (au bj (au bj (ax (ac g 0 rfl) ag (fun _ _=>rfl)) (au ba ag (ax (ac g 0 rfl) ag (fun _ _=>rfl)))) ag) ag) ag))
 (ah (aG g 2 rfl rfl (au cq (au ba (ac g 2 rfl) (au bj (au bj (au cq (ac g 2 rfl) ag) (ax (ac g 0 rfl) ag (fun _ _=>rfl))) ag)) ag))
 (ay (aM (au cq (au kR (au cq (au ba (ac g 2 rfl) (au bj (au cq (ac g 2 rfl) ag) ag)) ag) ag) (ac g 1 rfl))))))))
theorem pX:FnScope gr P_l_draw (al dy):=⟨rfl,rfl,rfl,by decide +kernel,rfl,by decide +kernel,by decide +kernel⟩
theorem pS:aT "_law_draw" dy P_l_draw:=fun _ _ _ _ _ _ us hl=>match us,hl with | [_,_],_=>rfl
abbrev cM:Stmt:=top 13
abbrev d7:List Str:=["_law_top","_law_bottom","_law_one","_law_other"]
abbrev jm:List Str:=["abs"]
abbrev P_l_lowest:List Str:=["_law_top","_law_bottom"]
theorem nQ {X:Cx} {k:Nat} (hsc:X.env.scope=al cM) (g:Good X d7 d7 jm k) (dc:DefCx X) (n0:X.mg "abs"=none):MSs X (aJ cM) m_l_lowest :=
 (ah (ls g 2 3 rfl rfl (by decide) (aa (bi g 0 rfl jb n0 PyProof.Rows.Boot.«abs» (aa (ac g 0 rfl) af)) (aa (bi g 0 rfl jb n0 PyProof.Rows.Boot.«abs» (aa (ac g 1 rfl) af)) af)) (by rw[hsc];rfl) (by rw[hsc];rfl) (by revert hsc;generalize X.env=env;intro h;cases env;cases h;rfl))
 (ah (qJ g (aS kN (ac g 3 rfl) ag (nomark _)) (ay (ls g 2 3 rfl rfl (by decide) (aa (ac g 3 rfl) (aa (au cq (ac g 2 rfl) (ac g 3 rfl)) af)) (by rw[hsc];rfl) (by rw[hsc];rfl) (by revert hsc;generalize X.env=env;intro h;cases env;cases h;rfl))))
 (ah (bT (aS oj_lt (ac g 1 rfl) ag (nomark _)) (ay (aG g 2 rfl rfl (kQ jc (ac g 2 rfl)))) bp)
 (ay (aM (aE (aa (au kR (ac g 0 rfl) (ac g 2 rfl)) (aa (au kR (ac g 1 rfl) (ac g 2 rfl)) af))))))))
theorem lZ:FnScope d7 P_l_lowest (al cM):=⟨rfl,rfl,rfl,by decide +kernel,rfl,by decide +kernel,by decide +kernel⟩
theorem mn:aT "_law_lowest" cM P_l_lowest:=fun _ _ _ _ _ _ us hl=>match us,hl with | [_,_],_=>rfl
abbrev cR:Stmt:=top 14
abbrev d6:List Str:=["_law_pen_here","_law_way"]
abbrev ja:List Str:=["_law_draw","_law_lowest"]
abbrev P_l_number:List Str:=["_law_pen_here"]
theorem oz {X:Cx} {k:Nat} (hsc:X.env.scope=al cR) (g:Good X d6 d6 ja k) (dc:DefCx X) (c8:Cal X "_law_draw" P_l_draw aI k) (c9:Cal X "_law_lowest" P_l_lowest b9 k):MSs X (aJ cR) m_l_number :=
 (ah (aG g 1 rfl rfl (ak g (j:=0) rfl c8 (aa (ac g 0 rfl) (aa ag af))))
 (ah (bT (aS (bM g.room) (ac g 1 rfl) ag (nomark _)) (ay (aM (ak g (j:=1) rfl c9 (aa (au bj (au fc (ak g (j:=0) rfl c8 (aa (ac g 0 rfl) (aa (au fc (au ba ag (au gX ag ag)) ag) af))) (au gX ag ag)) ag) (aa (au bj ag (ak g (j:=0) rfl c8 (aa (ac g 0 rfl) (aa (au fc (au gX ag ag) ag) af)))) af))))) bp)
 (ay (aM (ak g (j:=1) rfl c9 (aa (au fc (ak g (j:=0) rfl c8 (aa (ac g 0 rfl) (aa ag af))) ag) (aa (au bj ag (ak g (j:=0) rfl c8 (aa (ac g 0 rfl) (aa (ax (aN (aa ag (aa ag (aa ag af)))) (au cq (ac g 1 rfl) ag) (fun _ _=>rfl)) af)))) af)))))))
theorem mw:FnScope d6 P_l_number (al cR):=⟨rfl,rfl,rfl,by decide +kernel,rfl,by decide +kernel,by decide +kernel⟩
theorem mI:aT "_law_number" cR P_l_number:=fun _ _ _ _ _ _ us hl=>match us,hl with | [_],_=>rfl
abbrev dJ:Stmt:=top 15
abbrev gv:List Str:=["_law_pen_here","_law_number_here"]
abbrev lM:List Str:=["_law_number","_law_draw","int"]
abbrev P_l_more:List Str:=["_law_pen_here"]
theorem rc {X:Cx} {k:Nat} (hsc:X.env.scope=al dJ) (g:Good X gv gv lM k) (dc:DefCx X) (c8:Cal X "_law_draw" P_l_draw aI k) (c10:Cal X "_law_number" P_l_number aX k) (n4:X.mg "int"=none):MSs X (aJ dJ) m_l_more :=
 (ah (aG g 1 rfl rfl (ak g (j:=0) rfl c10 (aa (ac g 0 rfl) af)))
 (ay (aM (ax (aN (aa (ac g 1 rfl) (aa (aE (aa (au bj ag (ak g (j:=1) rfl c8 (aa (ac g 0 rfl) (aa ag af)))) (aa ag af))) af))) (bc g 2 rfl pW n4 PyProof.Rows.Boot.«int» (aa (bI (bM g.room) (ax (ac g 1 rfl) ag (fun _ _=>rfl)) ag (nomark _)) af)) (fun _ _=>rfl)))))
theorem p9:FnScope gv P_l_more (al dJ):=⟨rfl,rfl,rfl,by decide +kernel,rfl,by decide +kernel,by decide +kernel⟩
theorem pM:aT "_law_more" dJ P_l_more:=fun _ _ _ _ _ _ us hl=>match us,hl with | [_],_=>rfl
abbrev dz:Stmt:=top 16
abbrev gj:List Str:=["_law_a","_law_b"]
abbrev kU:List Str:=["_law_lowest"]
abbrev P_l_plus:List Str:=["_law_a","_law_b"]
theorem rT {X:Cx} {k:Nat} (hsc:X.env.scope=al dz) (g:Good X gj gj kU k) (dc:DefCx X) (c9:Cal X "_law_lowest" P_l_lowest b9 k):MSs X (aJ dz) m_l_plus :=
 (ay (aM (ak g (j:=0) rfl c9 (aa (au bj (au ba (ax (ac g 0 rfl) ag (fun _ _=>rfl)) (ax (ac g 1 rfl) ag (fun _ _=>rfl))) (au ba (ax (ac g 1 rfl) ag (fun _ _=>rfl)) (ax (ac g 0 rfl) ag (fun _ _=>rfl)))) (aa (au ba (ax (ac g 0 rfl) ag (fun _ _=>rfl)) (ax (ac g 1 rfl) ag (fun _ _=>rfl))) af)))))
theorem oZ:FnScope gj P_l_plus (al dz):=⟨rfl,rfl,rfl,by decide +kernel,rfl,by decide +kernel,by decide +kernel⟩
theorem qi:aT "_law_plus" dz P_l_plus:=fun _ _ _ _ _ _ us hl=>match us,hl with | [_,_],_=>rfl
abbrev dg:Stmt:=top 17
abbrev fw:List Str:=["_law_a","_law_b"]
abbrev kf:List Str:=["_law_lowest"]
abbrev P_l_times:List Str:=["_law_a","_law_b"]
theorem qj {X:Cx} {k:Nat} (hsc:X.env.scope=al dg) (g:Good X fw fw kf k) (dc:DefCx X) (c9:Cal X "_law_lowest" P_l_lowest b9 k):MSs X (aJ dg) m_l_times :=
 (ay (aM (ak g (j:=0) rfl c9 (aa (au ba (ax (ac g 0 rfl) ag (fun _ _=>rfl)) (ax (ac g 1 rfl) ag (fun _ _=>rfl))) (aa (au ba (ax (ac g 0 rfl) ag (fun _ _=>rfl)) (ax (ac g 1 rfl) ag (fun _ _=>rfl))) af)))))
theorem oB:FnScope fw P_l_times (al dg):=⟨rfl,rfl,rfl,by decide +kernel,rfl,by decide +kernel,by decide +kernel⟩
theorem nX:aT "_law_times" dg P_l_times:=fun _ _ _ _ _ _ us hl=>match us,hl with | [_,_],_=>rfl
abbrev dk:Stmt:=top 18
abbrev fA:List Str:=["_law_parts_here","_law_some","_law_found","_law_j","_law_number_here"]
abbrev ku:List Str:=["_law_plus","_law_times"]
abbrev P_l_comes:List Str:=["_law_parts_here","_law_some"]
theorem pB {X:Cx} {k:Nat} (hsc:X.env.scope=al dk) (g:Good X fA fA ku k) (dc:DefCx X) (c13:Cal X "_law_times" P_l_times df k) (c12:Cal X "_law_plus" P_l_plus bw k):MSs X (aJ dk) m_l_comes :=
 (ah (aG g 2 rfl rfl (aE (aa ag (aa ag af))))
 (ah (dW g (bm (ac g 0 rfl)) (cr g (aO (az g 3 rfl rfl) (aO (az g 4 rfl rfl) bW))) (ay (aG g 2 rfl rfl (ak g (j:=0) rfl c12 (aa (ac g 2 rfl) (aa (ak g (j:=1) rfl c13 (aa (ac g 4 rfl) (aa (ax (ac g 1 rfl) (ac g 3 rfl) (fun _ _=>rfl)) af))) af))))))
 (ay (aM (ac g 2 rfl)))))
theorem oU:FnScope fA P_l_comes (al dk):=⟨rfl,rfl,rfl,by decide +kernel,rfl,by decide +kernel,by decide +kernel⟩
theorem oE:aT "_law_comes" dk P_l_comes:=fun _ _ _ _ _ _ us hl=>match us,hl with | [_,_],_=>rfl
abbrev dj:Stmt:=top 19
abbrev fB:List Str:=["_law_pen_here","_law_n","_law_some"]
abbrev j5:List Str:=["tuple","range"]
abbrev P_l_parts:List Str:=["_law_pen_here","_law_n","_law_some"]
theorem pH {X:Cx} {k:Nat} (hsc:X.env.scope=al dj) (g:Good X fB fB j5 k) (dc:DefCx X) (c8:Cal X "_law_draw" P_l_draw aI k) (c11:Cal X "_law_more" P_l_more cY k) (n9:X.mg "range"=none) (n10:X.mg "tuple"=none):MSs X (aJ dj) m_l_parts :=
 (ay (aM (bc g 0 rfl lr n10 PyProof.Rows.Boot.«tuple» (aa (bU g (vars:=["_law_j"]) (frees:=["_law_pen_here","_law_some"]) (G':=["_law_more","_law_draw"]) (fm:=[0,2]) (aQ (hsc:=hsc) rfl rfl (by decide +kernel)) (by decide +kernel) (by decide +kernel) (by decide +kernel) (bG (g.gl _ (aL (i:=1) rfl)) n9 (aa (ac g 1 rfl) af)) (fun Y y1 y2 y3 y4 y5 y6 g=>have c8:=c8.at y1 y2 y3 y4 y5;have c11:=c11.at y1 y2 y3 y4 y5;⟨(az g 0 rfl rfl),(dE (aS (bM g.room) (ak g (j:=1) rfl c8 (aa (ac g 1 rfl) (aa (ac g 2 rfl) af))) ag (nomark _))),(aE (aa (ac g 0 rfl) (aa (ak g (j:=0) rfl c11 (aa (ac g 1 rfl) af)) af)))⟩)) af))))
theorem nV:FnScope fB P_l_parts (al dj):=⟨rfl,rfl,rfl,by decide +kernel,rfl,by decide +kernel,by decide +kernel⟩
theorem oN:aT "_law_parts" dj P_l_parts:=fun _ _ _ _ _ _ us hl=>match us,hl with | [_,_,_],_=>rfl
abbrev cN:Stmt:=top 20
abbrev eG:List Str:=["_law_n","_law_numbers"]
abbrev jC:List Str:=["tuple","range"]
abbrev P_l_of_all:List Str:=["_law_n","_law_numbers"]
theorem oM {X:Cx} {k:Nat} (hsc:X.env.scope=al cN) (g:Good X eG eG jC k) (dc:DefCx X) (n9:X.mg "range"=none) (n10:X.mg "tuple"=none):MSs X (aJ cN) m_l_of_all :=
 (ay (aM (bc g 0 rfl lr n10 PyProof.Rows.Boot.«tuple» (aa (bU g (vars:=["_law_j"]) (frees:=["_law_numbers"]) (G':=[]) (fm:=[1]) (aQ (hsc:=hsc) rfl rfl (by decide +kernel)) (by decide +kernel) (by decide +kernel) (by decide +kernel) (bG (g.gl _ (aL (i:=1) rfl)) n9 (aa (ac g 0 rfl) af)) (fun Y y1 y2 y3 y4 y5 y6 g=>⟨(az g 0 rfl rfl),(dE (aS (dP g.room) (ax (ax (ac g 1 rfl) (ac g 0 rfl) (fun _ _=>rfl)) ag (fun _ _=>rfl)) ag (nomark _))),(aE (aa (ac g 0 rfl) (aa (ax (ac g 1 rfl) (ac g 0 rfl) (fun _ _=>rfl)) af)))⟩)) af))))
theorem my:FnScope eG P_l_of_all (al cN):=⟨rfl,rfl,rfl,by decide +kernel,rfl,by decide +kernel,by decide +kernel⟩
theorem mF:aT "_law_of_all" cN P_l_of_all:=fun _ _ _ _ _ _ us hl=>match us,hl with | [_,_],_=>rfl
abbrev ci:Stmt:=top 21
abbrev dt:List Str:=["_law_n","_law_rows","_law_mix","_law_found","_law_k","_law_j","_law_number_here"]
abbrev hG:List Str:=["range","len","_law_plus","_law_times"]
abbrev P_l_together:List Str:=["_law_n","_law_rows","_law_mix"]
theorem ly {X:Cx} {k:Nat} (hsc:X.env.scope=al ci) (g:Good X dt dt hG k) (dc:DefCx X) (c13:Cal X "_law_times" P_l_times df k) (c12:Cal X "_law_plus" P_l_plus bw k) (n9:X.mg "range"=none) (n6:X.mg "len"=none):MSs X (aJ ci) m_l_together :=
 (ah (aG g 3 rfl rfl (au ba (aN (aa (aE (aa ag (aa ag af))) af)) (au bj (ac g 0 rfl) ag)))
 (ah (dW g (bG (g.gl _ (aL (i:=0) rfl)) n9 (aa (bi g 1 rfl eT n6 PyProof.Rows.Boot.«len» (aa (ac g 1 rfl) af)) af)) (az g 4 rfl rfl) (ah (dW g (bm (ax (ax (ac g 1 rfl) (ac g 4 rfl) (fun _ _=>rfl)) ag (fun _ _=>rfl))) (cr g (aO (az g 5 rfl rfl) (aO (az g 6 rfl rfl) bW))) (ay (cV (ak g (j:=2) rfl c12 (aa (ax (ac g 3 rfl) (ac g 5 rfl) (fun _ _=>rfl)) (aa (ak g (j:=3) rfl c13 (aa (ac g 6 rfl) (aa (ax (ac g 2 rfl) (ac g 4 rfl) (fun _ _=>rfl)) af))) af))) (cU (ac g 3 rfl) (ac g 5 rfl)))))
 (ay (cV (ak g (j:=2) rfl c12 (aa (ax (ac g 3 rfl) (ac g 0 rfl) (fun _ _=>rfl)) (aa (ak g (j:=3) rfl c13 (aa (ax (ax (ac g 1 rfl) (ac g 4 rfl) (fun _ _=>rfl)) ag (fun _ _=>rfl)) (aa (ax (ac g 2 rfl) (ac g 4 rfl) (fun _ _=>rfl)) af))) af))) (cU (ac g 3 rfl) (ac g 0 rfl))))))
 (ay (aM (ac g 3 rfl)))))
theorem kw:FnScope dt P_l_together (al ci):=⟨rfl,rfl,rfl,by decide +kernel,rfl,by decide +kernel,by decide +kernel⟩
theorem kC:aT "_law_together" ci P_l_together:=fun _ _ _ _ _ _ us hl=>match us,hl with | [_,_,_],_=>rfl
abbrev dM:Stmt:=top 22
abbrev gx:List Str:=["_law_pen_here","_law_some","_law_found","_law_at"]
abbrev kY:List Str:=["list","_law_draw","len","_law_plus","_law_more"]
abbrev P_l_bent:List Str:=["_law_pen_here","_law_some"]
theorem rE {X:Cx} {k:Nat} (hsc:X.env.scope=al dM) (g:Good X gx gx kY k) (dc:DefCx X) (c8:Cal X "_law_draw" P_l_draw aI k) (c11:Cal X "_law_more" P_l_more cY k) (c12:Cal X "_law_plus" P_l_plus bw k) (n6:X.mg "len"=none) (n7:X.mg "list"=none):MSs X (aJ dM) m_l_bent :=
 (ah (aG g 2 rfl rfl (bc g 0 rfl bV n7 PyProof.Rows.Boot.«list» (aa (ac g 1 rfl) af)))
 (ah (bT (MW.mt (gP (aS (dP g.room) (ac g 2 rfl) (aN af) (nomark _)) (fP (aS (bM g.room) (ak g (j:=1) rfl c8 (aa (ac g 0 rfl) (aa ag af))) ag (nomark _))))) (ah (aG g 3 rfl rfl (ak g (j:=1) rfl c8 (aa (ac g 0 rfl) (aa (bi g 2 rfl eT n6 PyProof.Rows.Boot.«len» (aa (ac g 2 rfl) af)) af))))
 (ay (cV (ak g (j:=3) rfl c12 (aa (ax (ac g 2 rfl) (ac g 3 rfl) (fun _ _=>rfl)) (aa (ax (aN (aa (aE (aa ag (aa ag af))) (aa (ak g (j:=4) rfl c11 (aa (ac g 0 rfl) af)) af))) (ak g (j:=1) rfl c8 (aa (ac g 0 rfl) (aa ag af))) (fun _ _=>rfl)) af))) (cU (ac g 2 rfl) (ac g 3 rfl))))) bp)
 (ay (aM (ac g 2 rfl)))))
theorem qg:FnScope gx P_l_bent (al dM):=⟨rfl,rfl,rfl,by decide +kernel,rfl,by decide +kernel,by decide +kernel⟩
theorem qd:aT "_law_bent" dM P_l_bent:=fun _ _ _ _ _ _ us hl=>match us,hl with | [_,_],_=>rfl
abbrev cB:Stmt:=top 23
abbrev dU:List Str:=["_law_pen_here","_law_n","_law_parts_here","_law_x","_law_rows","_law_other","_law_handed","_law_kept","_law_found","_law_due","_law_at"]
abbrev iI:List Str:=["range","is_answer","list","_law_draw","len","_law_plus","_law_more","_law_bent","isinstance","bool"]
abbrev P_l_answers:List Str:=["_law_pen_here","_law_n","_law_parts_here"]
theorem mm {X:Cx} {k:Nat} (hsc:X.env.scope=al cB) (g:Good X dU dU iI k) (dc:DefCx X) (c14:Cal X "_law_comes" P_l_comes de k) (c3:Cal X "is_answer" P_is_answer cv k) (c18:Cal X "_law_bent" P_l_bent cZ k) (c8:Cal X "_law_draw" P_l_draw aI k) (c11:Cal X "_law_more" P_l_more cY k) (c12:Cal X "_law_plus" P_l_plus bw k) (c10:Cal X "_law_number" P_l_number aX k) (n5:X.mg "isinstance"=none) (n2:X.mg "bool"=none) (n7:X.mg "list"=none) (n6:X.mg "len"=none) (n9:X.mg "range"=none):MSs X (aJ cB) m_l_answers :=
 (ah (aG g 3 rfl rfl (bU g (vars:=["_law_j"]) (frees:=["_law_pen_here"]) (G':=["_law_number"]) (fm:=[0]) (aQ (hsc:=hsc) rfl rfl (by decide +kernel)) (by decide +kernel) (by decide +kernel) (by decide +kernel) (bG (g.gl _ (aL (i:=0) rfl)) n9 (aa (ac g 1 rfl) af)) (fun Y y1 y2 y3 y4 y5 y6 g=>have c10:=c10.at y1 y2 y3 y4 y5;⟨(az g 0 rfl rfl),bg,(ak g (j:=0) rfl c10 (aa (ac g 1 rfl) af))⟩)) (by revert hsc;generalize X.env=env;intro h;cases env;cases h;rfl))
 (ah (bA g 4 rfl rfl (by revert hsc;generalize X.env=env;intro h;cases env;cases h;rfl) (vars:=["_law_one"]) (frees:=["_law_x"]) (G':=["_law_comes"]) (fm:=[3]) (aQ (hsc:=hsc) rfl rfl (by decide +kernel)) (by decide +kernel) (by decide +kernel) (by decide +kernel) (bm (ac g 2 rfl)) (fun Y y1 y2 y3 y4 y5 y6 g=>have c14:=c14.at y1 y2 y3 y4 y5;⟨(az g 0 rfl rfl),bg,(aE (aa (ac g 0 rfl) (aa (ak g (j:=0) rfl c14 (aa (ac g 0 rfl) (aa (ac g 1 rfl) af))) af)))⟩))
 (ah (bT (aS ji (ak g (j:=1) rfl c3 (aa (bc g 2 rfl bV n7 PyProof.Rows.Boot.«list» (aa (ac g 4 rfl) af)) (aa (bc g 2 rfl bV n7 PyProof.Rows.Boot.«list» (aa (ac g 3 rfl) af)) af))) bN (nomark _)) (ay (aM bN)) bp)
 (ah (bT (MW.mt (gP (aS (dP g.room) (ac g 4 rfl) (aN af) (nomark _)) (fP (aS (bM g.room) (ak g (j:=3) rfl c8 (aa (ac g 0 rfl) (aa ag af))) ag (nomark _))))) (ah (aG g 10 rfl rfl (ak g (j:=3) rfl c8 (aa (ac g 0 rfl) (aa (bi g 4 rfl eT n6 PyProof.Rows.Boot.«len» (aa (ac g 4 rfl) af)) af))))
 (ay (cV (aE (aa (ax (ax (ac g 4 rfl) (ac g 10 rfl) (fun _ _=>rfl)) ag (fun _ _=>rfl)) (aa (ak g (j:=5) rfl c12 (aa (ax (ax (ac g 4 rfl) (ac g 10 rfl) (fun _ _=>rfl)) ag (fun _ _=>rfl)) (aa (ak g (j:=6) rfl c11 (aa (ac g 0 rfl) af)) af))) af))) (cU (ac g 4 rfl) (ac g 10 rfl)) rfl (by revert hsc;generalize X.env=env;intro h;cases env;cases h;rfl)))) bp)
 (ah (aG g 5 rfl rfl (ak g (j:=7) rfl c18 (aa (ac g 0 rfl) (aa (ac g 3 rfl) af))))
 (ah (aG g 6 rfl rfl (bc g 2 rfl bV n7 PyProof.Rows.Boot.«list» (aa (ac g 4 rfl) af)))
 (ah (aG g 7 rfl rfl (bc g 2 rfl bV n7 PyProof.Rows.Boot.«list» (aa (ac g 5 rfl) af)))
 (ah (aG g 8 rfl rfl (ak g (j:=1) rfl c3 (aa (ac g 6 rfl) (aa (ac g 5 rfl) af))))
 (ah (bA g 9 rfl rfl (by revert hsc;generalize X.env=env;intro h;cases env;cases h;rfl) (vars:=["_law_one","_law_right"]) (frees:=["_law_other"]) (G':=["_law_comes"]) (fm:=[5]) (aQ (hsc:=hsc) rfl rfl (by decide +kernel)) (by decide +kernel) (by decide +kernel) (by decide +kernel) (bm (ac g 4 rfl)) (fun Y y1 y2 y3 y4 y5 y6 g=>have c14:=c14.at y1 y2 y3 y4 y5;⟨(cr g (aO (az g 0 rfl rfl) (aO (az g 1 rfl rfl) bW))),bg,(bI (bM g.room) (ak g (j:=0) rfl c14 (aa (ac g 0 rfl) (aa (ac g 2 rfl) af))) (ac g 1 rfl) (nomark _))⟩))
 (ay (aM (eY (jd g (i:=8) (j:=9) rfl n5 rfl n2 PyProof.Rows.Boot.«bool» gi (ac g 8 rfl)) (eY (bI (bM g.room) (ac g 8 rfl) (bI (ia g.room true) bN (ac g 9 rfl) rfl) (nomark _)) (eY (bI (bM g.room) (ac g 6 rfl) (ac g 4 rfl) (nomark _)) (ju (bI (bM g.room) (ac g 5 rfl) (ac g 7 rfl) (nomark _)))))))))))))))))
theorem lU:FnScope dU P_l_answers (al cB):=⟨rfl,rfl,rfl,by decide +kernel,rfl,by decide +kernel,by decide +kernel⟩
theorem lS:aT "_law_answers" cB P_l_answers:=fun _ _ _ _ _ _ us hl=>match us,hl with | [_,_,_],_=>rfl
abbrev dB:Stmt:=top 24
abbrev fZ:List Str:=["_law_pen_here","_law_n","_law_parts_here","_law_rows","_law_ways_here","_law_long","_law_way","_law_some","_law_first","_law_last","_law_handed","_law_found","_law_due"]
abbrev lC:List Str:=["range","list","is_way","isinstance","bool"]
abbrev P_l_ways:List Str:=["_law_pen_here","_law_n","_law_parts_here"]
theorem qt {X:Cx} {k:Nat} (hsc:X.env.scope=al dB) (g:Good X fZ fZ lC k) (dc:DefCx X) (c14:Cal X "_law_comes" P_l_comes de k) (c4:Cal X "is_way" P_is_way eZ k) (c10:Cal X "_law_number" P_l_number aX k) (n5:X.mg "isinstance"=none) (n2:X.mg "bool"=none) (n7:X.mg "list"=none) (n6:X.mg "len"=none) (n9:X.mg "range"=none):MSs X (aJ dB) m_l_ways :=
 (ah (bA g 3 rfl rfl (by revert hsc;generalize X.env=env;intro h;cases env;cases h;rfl) (vars:=["_law_one"]) (frees:=["_law_pen_here"]) (G':=["_law_number"]) (fm:=[0]) (aQ (hsc:=hsc) rfl rfl (by decide +kernel)) (by decide +kernel) (by decide +kernel) (by decide +kernel) (bm (ac g 2 rfl)) (fun Y y1 y2 y3 y4 y5 y6 g=>have c10:=c10.at y1 y2 y3 y4 y5;⟨(az g 0 rfl rfl),bg,(aE (aa (ac g 0 rfl) (aa (ak g (j:=0) rfl c10 (aa (ac g 1 rfl) af)) af)))⟩))
 (ah (aG g 4 rfl rfl (aN (aa (au ba (aN (aa (aE (aa ag (aa ag af))) af)) (ac g 1 rfl)) (aa (bU g (vars:=["_law_j"]) (frees:=["_law_pen_here"]) (G':=["_law_number"]) (fm:=[0]) (aQ (hsc:=hsc) rfl rfl (by decide +kernel)) (by decide +kernel) (by decide +kernel) (by decide +kernel) (bG (g.gl _ (aL (i:=0) rfl)) n9 (aa (ac g 1 rfl) af)) (fun Y y1 y2 y3 y4 y5 y6 g=>have c10:=c10.at y1 y2 y3 y4 y5;⟨(az g 0 rfl rfl),bg,(ak g (j:=0) rfl c10 (aa (ac g 1 rfl) af))⟩)) af))))
 (ah (aG g 5 rfl rfl (bU g (vars:=["_law_one"]) (frees:=[]) (G':=["len"]) (fm:=[]) (aQ (hsc:=hsc) rfl rfl (by decide +kernel)) (by decide +kernel) (by decide +kernel) (by decide +kernel) (bm (ac g 2 rfl)) (fun Y y1 y2 y3 y4 y5 y6 g=>have n6:Y.mg "len"=none:=y4.symm▸n6;⟨(az g 0 rfl rfl),(dE (aS kN (bi g 0 rfl eT n6 PyProof.Rows.Boot.«len» (aa (ac g 0 rfl) af)) ag (nomark _))),(ac g 0 rfl)⟩)) (by revert hsc;generalize X.env=env;intro h;cases env;cases h;rfl))
 (ah (bT (aS (dP g.room) (ac g 5 rfl) (aN af) (nomark _)) (ah (ls g 8 9 rfl rfl (by decide) (aa (ax (ax (ac g 5 rfl) ag (fun _ _=>rfl)) ag (fun _ _=>rfl)) (aa (ax (ax (ac g 5 rfl) ag (fun _ _=>rfl)) (kQ jc ag) (fun _ _=>rfl)) af)) (by rw[hsc];rfl) (by rw[hsc];rfl) (by revert hsc;generalize X.env=env;intro h;cases env;cases h;rfl))
 (ah (aG g 6 rfl rfl (au ba (aN (aa (aE (aa ag (aa ag af))) af)) (ac g 1 rfl)))
 (ah (cV (ax (ac g 9 rfl) ag (fun _ _=>rfl)) (cU (ac g 6 rfl) (ax (ac g 8 rfl) ag (fun _ _=>rfl))))
 (ah (cV (aE (aa (au fc ag (ax (ax (ac g 8 rfl) ag (fun _ _=>rfl)) ag (fun _ _=>rfl))) (aa (ax (ax (ac g 8 rfl) ag (fun _ _=>rfl)) ag (fun _ _=>rfl)) af))) (cU (ac g 6 rfl) (ax (ac g 9 rfl) ag (fun _ _=>rfl))) rfl (by revert hsc;generalize X.env=env;intro h;cases env;cases h;rfl))
 (ay (ms_expr (me_bm PySem.F.slot_list_append PySem.F.type_list_append pf (ac g 4 rfl) (aa (ac g 6 rfl) af)))))))) bp)
 (ah (dW g (bm (ac g 4 rfl)) (az g 6 rfl rfl) (ay (dW g (bm (aE (aa (ac g 3 rfl) (aa (kO (ac g 3 rfl) ik (iq ag)) (aa (bU g (vars:=["_law_row"]) (frees:=["_law_long"]) (G':=[]) (fm:=[5]) (aQ (hsc:=hsc) rfl rfl (by decide +kernel)) (by decide +kernel) (by decide +kernel) (by decide +kernel) (bm (ac g 3 rfl)) (fun Y y1 y2 y3 y4 y5 y6 g=>⟨(az g 0 rfl rfl),(dE (aS (ia g.room false) (ax (ac g 0 rfl) ag (fun _ _=>rfl)) (kO (ac g 1 rfl) ik (iq ag)) rfl)),(ac g 0 rfl)⟩)) af))))) (az g 7 rfl rfl) (ah (aG g 10 rfl rfl (bc g 1 rfl bV n7 PyProof.Rows.Boot.«list» (aa (ac g 6 rfl) af)))
 (ah (aG g 11 rfl rfl (ak g (j:=2) rfl c4 (aa (ac g 7 rfl) (aa (ac g 10 rfl) af))))
 (ah (bA g 12 rfl rfl (by revert hsc;generalize X.env=env;intro h;cases env;cases h;rfl) (vars:=["_law_one","_law_right"]) (frees:=["_law_way"]) (G':=["_law_comes"]) (fm:=[6]) (aQ (hsc:=hsc) rfl rfl (by decide +kernel)) (by decide +kernel) (by decide +kernel) (by decide +kernel) (bm (ac g 7 rfl)) (fun Y y1 y2 y3 y4 y5 y6 g=>have c14:=c14.at y1 y2 y3 y4 y5;⟨(cr g (aO (az g 0 rfl rfl) (aO (az g 1 rfl rfl) bW))),bg,(bI (bM g.room) (ak g (j:=0) rfl c14 (aa (ac g 0 rfl) (aa (ac g 2 rfl) af))) (aE (aa ag (aa ag af))) (nomark _))⟩))
 (ay (bT (MW.mt (f8 (ff (eU (jd g (i:=3) (j:=4) rfl n5 rfl n2 PyProof.Rows.Boot.«bool» gi (ac g 11 rfl)))) (f8 (aS (dP g.room) (ac g 11 rfl) (bI (ia g.room true) bN (ac g 12 rfl) rfl) (nomark _)) (jF (aS (dP g.room) (ac g 10 rfl) (ac g 6 rfl) (nomark _)))))) (ay (aM bN)) bp))))))))
 (ay (aM bN)))))))
theorem pr:FnScope fZ P_l_ways (al dB):=⟨rfl,rfl,rfl,by decide +kernel,rfl,by decide +kernel,by decide +kernel⟩
theorem oV:aT "_law_ways" dB P_l_ways:=fun _ _ _ _ _ _ us hl=>match us,hl with | [_,_,_],_=>rfl
abbrev di:Stmt:=top 25
abbrev fk:List Str:=["_law_pen_here","_law_n","_law_parts_here","_law_rows","_law_mix","_law_last","_law_less","_law_made","_law_other","_law_handed","_law_found","_law_due"]
abbrev j8:List Str:=["_law_together","_law_of_all","_law_plus","is_mix","list","_law_draw","_law_number","_law_bent","isinstance","bool"]
abbrev P_l_mixes:List Str:=["_law_pen_here","_law_n","_law_parts_here"]
theorem pj {X:Cx} {k:Nat} (hsc:X.env.scope=al di) (g:Good X fk fk j8 k) (dc:DefCx X) (c17:Cal X "_law_together" P_l_together bQ k) (c5:Cal X "is_mix" P_is_mix da k) (c18:Cal X "_law_bent" P_l_bent cZ k) (c8:Cal X "_law_draw" P_l_draw aI k) (c10:Cal X "_law_number" P_l_number aX k) (c12:Cal X "_law_plus" P_l_plus bw k) (c16:Cal X "_law_of_all" P_l_of_all dq k) (n5:X.mg "isinstance"=none) (n2:X.mg "bool"=none) (n7:X.mg "list"=none):MSs X (aJ di) m_l_mixes :=
 (ah (bA g 3 rfl rfl (by revert hsc;generalize X.env=env;intro h;cases env;cases h;rfl) (vars:=["_law_one"]) (frees:=["_law_pen_here"]) (G':=["_law_number"]) (fm:=[0]) (aQ (hsc:=hsc) rfl rfl (by decide +kernel)) (by decide +kernel) (by decide +kernel) (by decide +kernel) (bm (ac g 2 rfl)) (fun Y y1 y2 y3 y4 y5 y6 g=>have c10:=c10.at y1 y2 y3 y4 y5;⟨(az g 0 rfl rfl),bg,(aE (aa (ac g 0 rfl) (aa (ak g (j:=0) rfl c10 (aa (ac g 1 rfl) af)) af)))⟩))
 (ah (bA g 4 rfl rfl (by revert hsc;generalize X.env=env;intro h;cases env;cases h;rfl) (vars:=["_law_one"]) (frees:=["_law_pen_here"]) (G':=["_law_number"]) (fm:=[0]) (aQ (hsc:=hsc) rfl rfl (by decide +kernel)) (by decide +kernel) (by decide +kernel) (by decide +kernel) (bm (ac g 2 rfl)) (fun Y y1 y2 y3 y4 y5 y6 g=>have c10:=c10.at y1 y2 y3 y4 y5;⟨(az g 0 rfl rfl),bg,(ak g (j:=0) rfl c10 (aa (ac g 1 rfl) af))⟩))
 (ah (aG g 5 rfl rfl (ak g (j:=0) rfl c17 (aa (ac g 1 rfl) (aa (ac g 3 rfl) (aa (ac g 4 rfl) af)))))
 (ah (bA g 6 rfl rfl (by revert hsc;generalize X.env=env;intro h;cases env;cases h;rfl) (vars:=["_law_number_here"]) (frees:=[]) (G':=[]) (fm:=[]) (aQ (hsc:=hsc) rfl rfl (by decide +kernel)) (by decide +kernel) (by decide +kernel) (by decide +kernel) (bm (ac g 5 rfl)) (fun Y y1 y2 y3 y4 y5 y6 g=>⟨(az g 0 rfl rfl),bg,(aE (aa (au fc ag (ax (ac g 0 rfl) ag (fun _ _=>rfl))) (aa (ax (ac g 0 rfl) ag (fun _ _=>rfl)) af)))⟩))
 (ah (aG g 7 rfl rfl (au bj (ac g 3 rfl) (aN (aa (aE (aa (ak g (j:=1) rfl c16 (aa (ac g 1 rfl) (aa (kO (ac g 6 rfl) ik (iq (ac g 1 rfl))) af))) (aa (ak g (j:=2) rfl c12 (aa (aE (aa ag (aa ag af))) (aa (ax (ac g 6 rfl) (ac g 1 rfl) (fun _ _=>rfl)) af))) af))) af))))
 (ah (bT (aS ji (ak g (j:=3) rfl c5 (aa (ac g 1 rfl) (aa (bc g 4 rfl bV n7 PyProof.Rows.Boot.«list» (aa (ac g 7 rfl) af)) (aa (au bj (ac g 4 rfl) (aN (aa (aE (aa ag (aa ag af))) af))) af)))) bN (nomark _)) (ay (aM bN)) bp)
 (ah (bT (aS (bM g.room) (ak g (j:=5) rfl c8 (aa (ac g 0 rfl) (aa ag af))) ag (nomark _)) (ay (cV (aE (aa (ax (ax (ac g 7 rfl) (kQ jc ag) (fun _ _=>rfl)) ag (fun _ _=>rfl)) (aa (ax (aN (aa (aE (aa ag (aa ag af))) (aa (ax (ac g 6 rfl) (ac g 1 rfl) (fun _ _=>rfl)) (aa (ak g (j:=6) rfl c10 (aa (ac g 0 rfl) af)) af)))) (ak g (j:=5) rfl c8 (aa (ac g 0 rfl) (aa ag af))) (fun _ _=>rfl)) af))) (cU (ac g 7 rfl) (kQ jc ag)) rfl (by revert hsc;generalize X.env=env;intro h;cases env;cases h;rfl))) bp)
 (ah (aG g 8 rfl rfl (ak g (j:=7) rfl c18 (aa (ac g 0 rfl) (aa (au bj (ac g 4 rfl) (aN (aa (aE (aa ag (aa ag af))) af))) af))))
 (ah (aG g 9 rfl rfl (bc g 4 rfl bV n7 PyProof.Rows.Boot.«list» (aa (ac g 8 rfl) af)))
 (ah (aG g 10 rfl rfl (ak g (j:=3) rfl c5 (aa (ac g 1 rfl) (aa (bc g 4 rfl bV n7 PyProof.Rows.Boot.«list» (aa (ac g 7 rfl) af)) (aa (ac g 9 rfl) af)))))
 (ah (aG g 11 rfl rfl (bI (bM g.room) (ak g (j:=0) rfl c17 (aa (ac g 1 rfl) (aa (ac g 7 rfl) (aa (ac g 8 rfl) af)))) (au bj (au ba (aN (aa (aE (aa ag (aa ag af))) af)) (ac g 1 rfl)) (aN (aa (aE (aa ag (aa ag af))) af))) (nomark _)))
 (ay (aM (eY (bI (bM g.room) (ac g 9 rfl) (ac g 8 rfl) (nomark _)) (eY (jd g (i:=8) (j:=9) rfl n5 rfl n2 PyProof.Rows.Boot.«bool» gi (ac g 10 rfl)) (ju (bI (bM g.room) (ac g 10 rfl) (ac g 11 rfl) (nomark _))))))))))))))))))
theorem oD:FnScope fk P_l_mixes (al di):=⟨rfl,rfl,rfl,by decide +kernel,rfl,by decide +kernel,by decide +kernel⟩
theorem og:aT "_law_mixes" di P_l_mixes:=fun _ _ _ _ _ _ us hl=>match us,hl with | [_,_,_],_=>rfl
abbrev dw:Stmt:=top 26
abbrev gz:List Str:=["_law_pen_here","_law_n","_law_parts_here","_law_rows","_law_mix","_law_place","_law_free","_law_last","_law_made","_law_bent_here","_law_some","_law_other","_law_rest","_law_come","_law_due","_law_handed","_law_found"]
abbrev k6:List Str:=["_law_draw","range","_law_together","_law_plus","_law_of_all","_law_number","_law_bent","list","holds","isinstance","bool"]
abbrev P_l_held:List Str:=["_law_pen_here","_law_n","_law_parts_here"]
theorem rC {X:Cx} {k:Nat} (hsc:X.env.scope=al dw) (g:Good X gz gz k6 k) (dc:DefCx X) (c6:Cal X "holds" P_holds jQ k) (c17:Cal X "_law_together" P_l_together bQ k) (c18:Cal X "_law_bent" P_l_bent cZ k) (c10:Cal X "_law_number" P_l_number aX k) (c16:Cal X "_law_of_all" P_l_of_all dq k) (c12:Cal X "_law_plus" P_l_plus bw k) (c8:Cal X "_law_draw" P_l_draw aI k) (n5:X.mg "isinstance"=none) (n2:X.mg "bool"=none) (n7:X.mg "list"=none) (n9:X.mg "range"=none) (n4:X.mg "int"=none):MSs X (aJ dw) m_l_held :=
 (ah (bA g 3 rfl rfl (by revert hsc;generalize X.env=env;intro h;cases env;cases h;rfl) (vars:=["_law_one"]) (frees:=["_law_pen_here"]) (G':=["_law_number"]) (fm:=[0]) (aQ (hsc:=hsc) rfl rfl (by decide +kernel)) (by decide +kernel) (by decide +kernel) (by decide +kernel) (bm (ac g 2 rfl)) (fun Y y1 y2 y3 y4 y5 y6 g=>have c10:=c10.at y1 y2 y3 y4 y5;⟨(az g 0 rfl rfl),bg,(aE (aa (ac g 0 rfl) (aa (ak g (j:=0) rfl c10 (aa (ac g 1 rfl) af)) af)))⟩))
 (ah (bA g 4 rfl rfl (by revert hsc;generalize X.env=env;intro h;cases env;cases h;rfl) (vars:=["_law_one"]) (frees:=["_law_pen_here"]) (G':=["_law_number"]) (fm:=[0]) (aQ (hsc:=hsc) rfl rfl (by decide +kernel)) (by decide +kernel) (by decide +kernel) (by decide +kernel) (bm (ac g 2 rfl)) (fun Y y1 y2 y3 y4 y5 y6 g=>have c10:=c10.at y1 y2 y3 y4 y5;⟨(az g 0 rfl rfl),bg,(ak g (j:=0) rfl c10 (aa (ac g 1 rfl) af))⟩))
 (ah (aG g 5 rfl rfl (ak g (j:=0) rfl c8 (aa (ac g 0 rfl) (aa (ac g 1 rfl) af))))
 (ah (bA g 6 rfl rfl (by revert hsc;generalize X.env=env;intro h;cases env;cases h;rfl) (vars:=["_law_j"]) (frees:=["_law_place","_law_pen_here"]) (G':=["_law_draw"]) (fm:=[5,0]) (aQ (hsc:=hsc) rfl rfl (by decide +kernel)) (by decide +kernel) (by decide +kernel) (by decide +kernel) (bG (g.gl _ (aL (i:=1) rfl)) n9 (aa (ac g 1 rfl) af)) (fun Y y1 y2 y3 y4 y5 y6 g=>have c8:=c8.at y1 y2 y3 y4 y5;⟨(az g 0 rfl rfl),(dE (MW.mt (gP (aS (dP g.room) (ac g 0 rfl) (ac g 1 rfl) (nomark _)) (fP (aS (bM g.room) (ak g (j:=0) rfl c8 (aa (ac g 2 rfl) (aa ag af))) ag (nomark _)))))),(ac g 0 rfl)⟩))
 (ah (bA g 7 rfl rfl (by revert hsc;generalize X.env=env;intro h;cases env;cases h;rfl) (vars:=["_law_top","_law_bottom"]) (frees:=[]) (G':=[]) (fm:=[]) (aQ (hsc:=hsc) rfl rfl (by decide +kernel)) (by decide +kernel) (by decide +kernel) (by decide +kernel) (bm (kO (ak g (j:=2) rfl c17 (aa (ac g 1 rfl) (aa (ac g 3 rfl) (aa (ac g 4 rfl) af)))) ik (iq (ac g 1 rfl)))) (fun Y y1 y2 y3 y4 y5 y6 g=>⟨(cr g (aO (az g 0 rfl rfl) (aO (az g 1 rfl rfl) bW))),bg,(aE (aa (au fc ag (ac g 0 rfl)) (aa (ac g 1 rfl) af)))⟩))
 (ah (cV (ak g (j:=3) rfl c12 (aa (ax (ac g 7 rfl) (ac g 5 rfl) (fun _ _=>rfl)) (aa (aE (aa ag (aa ag af))) af))) (cU (ac g 7 rfl) (ac g 5 rfl)))
 (ah (aG g 8 rfl rfl (au bj (ac g 3 rfl) (aN (aa (aE (aa (ak g (j:=4) rfl c16 (aa (ac g 1 rfl) (aa (ac g 7 rfl) af))) (aa (ak g (j:=5) rfl c10 (aa (ac g 0 rfl) af)) af))) af))))
 (ah (aG g 9 rfl rfl (ak g (j:=6) rfl c18 (aa (ac g 0 rfl) (aa (au bj (ac g 4 rfl) (aN (aa (aE (aa ag (aa ag af))) af))) af))))
 (ah (dW g (bm (aN (aa (aE (aa (ac g 8 rfl) (aa (au bj (ac g 4 rfl) (aN (aa (aE (aa ag (aa ag af))) af))) (aa (aN af) af)))) (aa (aE (aa (ac g 8 rfl) (aa (ac g 9 rfl) (aa (aN af) af)))) (aa (aE (aa (ac g 8 rfl) (aa (ac g 9 rfl) (aa (ac g 6 rfl) af)))) (aa (aE (aa (ac g 3 rfl) (aa (ac g 4 rfl) (aa (ac g 6 rfl) af)))) af)))))) (cr g (aO (az g 10 rfl rfl) (aO (az g 11 rfl rfl) (aO (az g 12 rfl rfl) bW)))) (ah (aG g 13 rfl rfl (ak g (j:=2) rfl c17 (aa (ac g 1 rfl) (aa (ac g 10 rfl) (aa (ac g 11 rfl) af)))))
 (ah (bA g 14 rfl rfl (by revert hsc;generalize X.env=env;intro h;cases env;cases h;rfl) (vars:=["_law_j"]) (frees:=["_law_come","_law_place","_law_rest"]) (G':=["int"]) (fm:=[13,5,12]) (aQ (hsc:=hsc) rfl rfl (by decide +kernel)) (by decide +kernel) (by decide +kernel) (by decide +kernel) (bG (g.gl _ (aL (i:=1) rfl)) n9 (aa (ac g 1 rfl) af)) (fun Y y1 y2 y3 y4 y5 y6 g=>have n4:Y.mg "int"=none:=y4.symm▸n4;⟨(az g 0 rfl rfl),(dE (aS (ia g.room true) (ac g 0 rfl) (ac g 3 rfl) rfl)),(bI (bM g.room) (ax (ac g 1 rfl) (ac g 0 rfl) (fun _ _=>rfl)) (aE (aa (bc g 0 rfl pW n4 PyProof.Rows.Boot.«int» (aa (bI (bM g.room) (ac g 0 rfl) (ac g 2 rfl) (nomark _)) af)) (aa ag af))) (nomark _))⟩))
 (ah (aG g 15 rfl rfl (aN (aa (bc g 7 rfl bV n7 PyProof.Rows.Boot.«list» (aa (ac g 12 rfl) af)) (aa (bc g 7 rfl bV n7 PyProof.Rows.Boot.«list» (aa (ac g 11 rfl) af)) af))))
 (ah (aG g 16 rfl rfl (ak g (j:=8) rfl c6 (aa (ac g 1 rfl) (aa (bc g 7 rfl bV n7 PyProof.Rows.Boot.«list» (aa (ac g 10 rfl) af)) (aa (ax (ac g 15 rfl) ag (fun _ _=>rfl)) (aa (ac g 5 rfl) (aa (ax (ac g 15 rfl) ag (fun _ _=>rfl)) af)))))))
 (ay (bT (MW.mt (f8 (ff (eU (jd g (i:=9) (j:=10) rfl n5 rfl n2 PyProof.Rows.Boot.«bool» gi (ac g 16 rfl)))) (f8 (aS (dP g.room) (ac g 16 rfl) (bI (ia g.room true) bN (ac g 14 rfl) rfl) (nomark _)) (jF (aS (dP g.room) (ac g 15 rfl) (aN (aa (ac g 12 rfl) (aa (ac g 11 rfl) af))) (nomark _)))))) (ay (aM bN)) bp)))))))
 (ay (aM bN)))))))))))
theorem pJ:FnScope gz P_l_held (al dw):=⟨rfl,rfl,rfl,by decide +kernel,rfl,by decide +kernel,by decide +kernel⟩
theorem pE:aT "_law_held" dw P_l_held:=fun _ _ _ _ _ _ us hl=>match us,hl with | [_,_,_],_=>rfl
abbrev hZ:Stmt:=top 27
abbrev kF:List Str:=["_law_script","_law_k","_law_pen_here","_law_n","_law_parts_here"]
abbrev G_law:List Str:=["range","_law_pen","_law_draw","_law_answers","_law_ways","_law_mixes","_law_held","is_answer","is_way","is_mix"]
abbrev P_law:List Str:=["_law_script"]
theorem b_law {X:Cx} {k:Nat} (hsc:X.env.scope=al hZ) (g:Good X kF kF G_law k) (dc:DefCx X) (c5:Cal X "is_mix" P_is_mix da k) (c4:Cal X "is_way" P_is_way eZ k) (c3:Cal X "is_answer" P_is_answer cv k) (c22:Cal X "_law_held" P_l_held i4 k) (c21:Cal X "_law_mixes" P_l_mixes g7 k) (c20:Cal X "_law_ways" P_l_ways iT k) (c19:Cal X "_law_answers" P_l_answers fF k) (c8:Cal X "_law_draw" P_l_draw aI k) (c15:Cal X "_law_parts" P_l_parts g6 k) (c7:Cal X "_law_pen" P_l_pen dh k) (n9:X.mg "range"=none):MSs X (aJ hZ) m_law :=
 (ah (dW g (bG (g.gl _ (aL (i:=0) rfl)) n9 (aa ag af)) (az g 1 rfl rfl) (ah (aG g 2 rfl rfl (ak g (j:=1) rfl c7 (aa (ac g 0 rfl) (aa (ac g 1 rfl) af))))
 (ah (aG g 3 rfl rfl (ak g (j:=2) rfl c8 (aa (ac g 2 rfl) (aa ag af))))
 (ah (bA g 4 rfl rfl (by revert hsc;generalize X.env=env;intro h;cases env;cases h;rfl) (vars:=["_law_row"]) (frees:=["_law_pen_here","_law_n"]) (G':=["_law_parts"]) (fm:=[2,3]) (aQ (hsc:=hsc) rfl rfl (by decide +kernel)) (by decide +kernel) (by decide +kernel) (by decide +kernel) (bG (g.gl _ (aL (i:=0) rfl)) n9 (aa (ak g (j:=2) rfl c8 (aa (ac g 2 rfl) (aa ag af))) af)) (fun Y y1 y2 y3 y4 y5 y6 g=>have c15:=c15.at y1 y2 y3 y4 y5;⟨(az g 0 rfl rfl),bg,(ak g (j:=0) rfl c15 (aa (ac g 1 rfl) (aa (ac g 2 rfl) (aa ag af))))⟩))
 (ah (bT (MW.mt (f8 (ff (eU (ak g (j:=3) rfl c19 (aa (ac g 2 rfl) (aa (ac g 3 rfl) (aa (ac g 4 rfl) af)))))) (f8 (ff (eU (ak g (j:=4) rfl c20 (aa (ac g 2 rfl) (aa (ac g 3 rfl) (aa (ac g 4 rfl) af)))))) (jF (ff (eU (ak g (j:=5) rfl c21 (aa (ac g 2 rfl) (aa (ac g 3 rfl) (aa (ac g 4 rfl) af)))))))))) (ay (aM bN)) bp)
 (ay (bT (MW.mt (gP (aS kN (ac g 3 rfl) ag (nomark _)) (fP (ff (eU (ak g (j:=6) rfl c22 (aa (ac g 2 rfl) (aa (ac g 3 rfl) (aa (ac g 4 rfl) af))))))))) (ay (aM bN)) bp)))))))
 (ah (bT (MW.mt (f8 (aS ji (ak g (j:=7) rfl c3 (aa (aN af) (aa (aN af) af))) bN (nomark _)) (jF (aS ji (ak g (j:=8) rfl c4 (aa (aN (aa (aE (aa (aE af) (aa (aE (aa ag (aa ag af))) af))) af)) (aa (aN af) af))) bN (nomark _))))) (ay (aM bN)) bp)
 (ay (aM (eY (bI oj_is (ak g (j:=9) rfl c5 (aa ag (aa (aN (aa (aE (aa (aE af) (aa (aE (aa ag (aa ag af))) af))) af)) (aa (aN (aa (aE (aa ag (aa ag af))) af)) af)))) bN (nomark _)) (ju (bI oj_is (ak g (j:=9) rfl c5 (aa ag (aa (aN af) (aa (aN af) af)))) bN (nomark _))))))))
theorem sc_law:FnScope kF P_law (al hZ):=⟨rfl,rfl,rfl,by decide +kernel,rfl,by decide +kernel,by decide +kernel⟩
theorem pe:aT "law" hZ P_law:=fun _ _ _ _ _ _ us hl=>match us,hl with | [_],_=>rfl
theorem all_fn {P:Program} {w:World} {K:PySem.W.Frag} {mg:Str→Option Value} {base:Heap} (kin:K.In base) (ns:base.Ns mainGlobals mg)
  (D0:DefAt K "comes_to" cG)
  (D1:DefAt K "part_pairs" cf)
  (D2:DefAt K "mixed_at" cK)
  (D3:DefAt K "is_answer" cz)
  (D4:DefAt K "is_way" dv)
  (D5:DefAt K "is_mix" dH)
  (D6:DefAt K "holds" eK)
  (D7:DefAt K "_law_pen" eM)
  (D8:DefAt K "_law_draw" dy)
  (D9:DefAt K "_law_lowest" cM)
  (D10:DefAt K "_law_number" cR)
  (D11:DefAt K "_law_more" dJ)
  (D12:DefAt K "_law_plus" dz)
  (D13:DefAt K "_law_times" dg)
  (D14:DefAt K "_law_comes" dk)
  (D15:DefAt K "_law_parts" dj)
  (D16:DefAt K "_law_of_all" cN)
  (D17:DefAt K "_law_together" ci)
  (D18:DefAt K "_law_bent" dM)
  (D19:DefAt K "_law_answers" cB)
  (D20:DefAt K "_law_ways" dB)
  (D21:DefAt K "_law_mixes" di)
  (D22:DefAt K "_law_held" dw)
  (D23:DefAt K "law" hZ)
  (z0:PySem.W.nsIn K mainGlobals "abs"=some none)
  (z1:PySem.W.nsIn K mainGlobals "all"=some none)
  (z2:PySem.W.nsIn K mainGlobals "bool"=some none)
  (z3:PySem.W.nsIn K mainGlobals "dict"=some none)
  (z4:PySem.W.nsIn K mainGlobals "int"=some none)
  (z5:PySem.W.nsIn K mainGlobals "isinstance"=some none)
  (z6:PySem.W.nsIn K mainGlobals "len"=some none)
  (z7:PySem.W.nsIn K mainGlobals "list"=some none)
  (z8:PySem.W.nsIn K mainGlobals "min"=some none)
  (z9:PySem.W.nsIn K mainGlobals "range"=some none)
  (z10:PySem.W.nsIn K mainGlobals "tuple"=some none)
  (z11:PySem.W.nsIn K mainGlobals "zip"=some none)
  (y_NOUGHT:gg K "NOUGHT" 0 1)
  (y_ONE:gg K "ONE" 1 1)
   :FnAt P w K mg base "law" P_law f_law 6:=by
 have n0:=PySem.W.mg_none_of kin ns z0
 have n1:=PySem.W.mg_none_of kin ns z1
 have n2:=PySem.W.mg_none_of kin ns z2
 have n3:=PySem.W.mg_none_of kin ns z3
 have n4:=PySem.W.mg_none_of kin ns z4
 have n5:=PySem.W.mg_none_of kin ns z5
 have n6:=PySem.W.mg_none_of kin ns z6
 have n7:=PySem.W.mg_none_of kin ns z7
 have n8:=PySem.W.mg_none_of kin ns z8
 have n9:=PySem.W.mg_none_of kin ns z9
 have n10:=PySem.W.mg_none_of kin ns z10
 have n11:=PySem.W.mg_none_of kin ns z11
 have v_NOUGHT:=y_NOUGHT.mg kin ns
 have v_ONE:=y_ONE.mg kin ns
 have a0:FnAt P w K mg base "comes_to" P_comes_to bt 1:=be (k:=0) (N:=eB) (G:=jD) kin ns D0 mz mq (by decide +kernel) (by decide +kernel) (by decide +kernel) fun X e1 e2 e3 e4 e5 e6 g dc=>oI e6 g dc
 have a1:FnAt P w K mg base "part_pairs" P_part_pairs cC 1:=be (k:=0) (N:=dr) (G:=g9) kin ns D1 kB kx (by decide +kernel) (by decide +kernel) (by decide +kernel) fun X e1 e2 e3 e4 e5 e6 g dc=>lO e6 g dc
 have a2:FnAt P w K mg base "mixed_at" P_mixed_at cO 1:=be (k:=0) (N:=d9) (G:=jv) kin ns D2 mk mJ (by decide +kernel) (by decide +kernel) (by decide +kernel) fun X e1 e2 e3 e4 e5 e6 g dc=>ox e6 g dc (e4▸n11) (e4▸n3) (e3▸e4▸v_NOUGHT)
 have a3:FnAt P w K mg base "is_answer" P_is_answer cv 2:=be (k:=1) (N:=dO) (G:=iJ) kin ns D3 lP lz (by decide +kernel) (by decide +kernel) (by decide +kernel) fun X e1 e2 e3 e4 e5 e6 g dc=>mH e6 g dc ((a1.mono (by decide)).cal e1 e2 e3 e4 e5) ((a0.mono (by decide)).cal e1 e2 e3 e4 e5) (e4▸n1)
 have a4:FnAt P w K mg base "is_way" P_is_way eZ 2:=be (k:=1) (N:=gu) (G:=lA) kin ns D4 p5 qh (by decide +kernel) (by decide +kernel) (by decide +kernel) fun X e1 e2 e3 e4 e5 e6 g dc=>qQ e6 g dc ((a1.mono (by decide)).cal e1 e2 e3 e4 e5) ((a0.mono (by decide)).cal e1 e2 e3 e4 e5) (e4▸n1) (e3▸e4▸v_NOUGHT)
 have a5:FnAt P w K mg base "is_mix" P_is_mix da 2:=be (k:=1) (N:=gB) (G:=lG) kin ns D5 pI p8 (by decide +kernel) (by decide +kernel) (by decide +kernel) fun X e1 e2 e3 e4 e5 e6 g dc=>r9 e6 g dc ((a2.mono (by decide)).cal e1 e2 e3 e4 e5) ((a0.mono (by decide)).cal e1 e2 e3 e4 e5) (e4▸n9) (e4▸n1) (e4▸n11) (e3▸e4▸v_NOUGHT) (e3▸e4▸v_ONE)
 have a6:FnAt P w K mg base "holds" P_holds jQ 2:=be (k:=1) (N:=io) (G:=nz) kin ns D6 rQ qY (by decide +kernel) (by decide +kernel) (by decide +kernel) fun X e1 e2 e3 e4 e5 e6 g dc=>b_holds e6 g dc ((a2.mono (by decide)).cal e1 e2 e3 e4 e5) ((a0.mono (by decide)).cal e1 e2 e3 e4 e5) (e4▸n1) (e4▸n9) (e3▸e4▸v_ONE) (e3▸e4▸v_NOUGHT)
 have a7:FnAt P w K mg base "_law_pen" P_l_pen dh 1:=be (k:=0) (N:=ij) (G:=m4) kin ns D7 si qV (by decide +kernel) (by decide +kernel) (by decide +kernel) fun X e1 e2 e3 e4 e5 e6 g dc=>b_l_pen e6 g dc (e4▸n0) (e4▸n6) (e4▸n8)
 have a8:FnAt P w K mg base "_law_draw" P_l_draw aI 1:=be (k:=0) (N:=gr) (G:=ll) kin ns D8 pX pS (by decide +kernel) (by decide +kernel) (by decide +kernel) fun X e1 e2 e3 e4 e5 e6 g dc=>rW e6 g dc
 have a9:FnAt P w K mg base "_law_lowest" P_l_lowest b9 1:=be (k:=0) (N:=d7) (G:=jm) kin ns D9 lZ mn (by decide +kernel) (by decide +kernel) (by decide +kernel) fun X e1 e2 e3 e4 e5 e6 g dc=>nQ e6 g dc (e4▸n0)
 have a10:FnAt P w K mg base "_law_number" P_l_number aX 2:=be (k:=1) (N:=d6) (G:=ja) kin ns D10 mw mI (by decide +kernel) (by decide +kernel) (by decide +kernel) fun X e1 e2 e3 e4 e5 e6 g dc=>oz e6 g dc ((a8.mono (by decide)).cal e1 e2 e3 e4 e5) ((a9.mono (by decide)).cal e1 e2 e3 e4 e5)
 have a11:FnAt P w K mg base "_law_more" P_l_more cY 3:=be (k:=2) (N:=gv) (G:=lM) kin ns D11 p9 pM (by decide +kernel) (by decide +kernel) (by decide +kernel) fun X e1 e2 e3 e4 e5 e6 g dc=>rc e6 g dc ((a8.mono (by decide)).cal e1 e2 e3 e4 e5) ((a10.mono (by decide)).cal e1 e2 e3 e4 e5) (e4▸n4)
 have a12:FnAt P w K mg base "_law_plus" P_l_plus bw 2:=be (k:=1) (N:=gj) (G:=kU) kin ns D12 oZ qi (by decide +kernel) (by decide +kernel) (by decide +kernel) fun X e1 e2 e3 e4 e5 e6 g dc=>rT e6 g dc ((a9.mono (by decide)).cal e1 e2 e3 e4 e5)
 have a13:FnAt P w K mg base "_law_times" P_l_times df 2:=be (k:=1) (N:=fw) (G:=kf) kin ns D13 oB nX (by decide +kernel) (by decide +kernel) (by decide +kernel) fun X e1 e2 e3 e4 e5 e6 g dc=>qj e6 g dc ((a9.mono (by decide)).cal e1 e2 e3 e4 e5)
 have a14:FnAt P w K mg base "_law_comes" P_l_comes de 3:=be (k:=2) (N:=fA) (G:=ku) kin ns D14 oU oE (by decide +kernel) (by decide +kernel) (by decide +kernel) fun X e1 e2 e3 e4 e5 e6 g dc=>pB e6 g dc ((a13.mono (by decide)).cal e1 e2 e3 e4 e5) ((a12.mono (by decide)).cal e1 e2 e3 e4 e5)
 have a15:FnAt P w K mg base "_law_parts" P_l_parts g6 4:=be (k:=3) (N:=fB) (G:=j5) kin ns D15 nV oN (by decide +kernel) (by decide +kernel) (by decide +kernel) fun X e1 e2 e3 e4 e5 e6 g dc=>pH e6 g dc ((a8.mono (by decide)).cal e1 e2 e3 e4 e5) ((a11.mono (by decide)).cal e1 e2 e3 e4 e5) (e4▸n9) (e4▸n10)
 have a16:FnAt P w K mg base "_law_of_all" P_l_of_all dq 1:=be (k:=0) (N:=eG) (G:=jC) kin ns D16 my mF (by decide +kernel) (by decide +kernel) (by decide +kernel) fun X e1 e2 e3 e4 e5 e6 g dc=>oM e6 g dc (e4▸n9) (e4▸n10)
 have a17:FnAt P w K mg base "_law_together" P_l_together bQ 3:=be (k:=2) (N:=dt) (G:=hG) kin ns D17 kw kC (by decide +kernel) (by decide +kernel) (by decide +kernel) fun X e1 e2 e3 e4 e5 e6 g dc=>ly e6 g dc ((a13.mono (by decide)).cal e1 e2 e3 e4 e5) ((a12.mono (by decide)).cal e1 e2 e3 e4 e5) (e4▸n9) (e4▸n6)
 have a18:FnAt P w K mg base "_law_bent" P_l_bent cZ 4:=be (k:=3) (N:=gx) (G:=kY) kin ns D18 qg qd (by decide +kernel) (by decide +kernel) (by decide +kernel) fun X e1 e2 e3 e4 e5 e6 g dc=>rE e6 g dc ((a8.mono (by decide)).cal e1 e2 e3 e4 e5) ((a11.mono (by decide)).cal e1 e2 e3 e4 e5) ((a12.mono (by decide)).cal e1 e2 e3 e4 e5) (e4▸n6) (e4▸n7)
 have a19:FnAt P w K mg base "_law_answers" P_l_answers fF 5:=be (k:=4) (N:=dU) (G:=iI) kin ns D19 lU lS (by decide +kernel) (by decide +kernel) (by decide +kernel) fun X e1 e2 e3 e4 e5 e6 g dc=>mm e6 g dc ((a14.mono (by decide)).cal e1 e2 e3 e4 e5) ((a3.mono (by decide)).cal e1 e2 e3 e4 e5) ((a18.mono (by decide)).cal e1 e2 e3 e4 e5) ((a8.mono (by decide)).cal e1 e2 e3 e4 e5) ((a11.mono (by decide)).cal e1 e2 e3 e4 e5) ((a12.mono (by decide)).cal e1 e2 e3 e4 e5) ((a10.mono (by decide)).cal e1 e2 e3 e4 e5) (e4▸n5) (e4▸n2) (e4▸n7) (e4▸n6) (e4▸n9)
 have a20:FnAt P w K mg base "_law_ways" P_l_ways iT 4:=be (k:=3) (N:=fZ) (G:=lC) kin ns D20 pr oV (by decide +kernel) (by decide +kernel) (by decide +kernel) fun X e1 e2 e3 e4 e5 e6 g dc=>qt e6 g dc ((a14.mono (by decide)).cal e1 e2 e3 e4 e5) ((a4.mono (by decide)).cal e1 e2 e3 e4 e5) ((a10.mono (by decide)).cal e1 e2 e3 e4 e5) (e4▸n5) (e4▸n2) (e4▸n7) (e4▸n6) (e4▸n9)
 have a21:FnAt P w K mg base "_law_mixes" P_l_mixes g7 5:=be (k:=4) (N:=fk) (G:=j8) kin ns D21 oD og (by decide +kernel) (by decide +kernel) (by decide +kernel) fun X e1 e2 e3 e4 e5 e6 g dc=>pj e6 g dc ((a17.mono (by decide)).cal e1 e2 e3 e4 e5) ((a5.mono (by decide)).cal e1 e2 e3 e4 e5) ((a18.mono (by decide)).cal e1 e2 e3 e4 e5) ((a8.mono (by decide)).cal e1 e2 e3 e4 e5) ((a10.mono (by decide)).cal e1 e2 e3 e4 e5) ((a12.mono (by decide)).cal e1 e2 e3 e4 e5) ((a16.mono (by decide)).cal e1 e2 e3 e4 e5) (e4▸n5) (e4▸n2) (e4▸n7)
 have a22:FnAt P w K mg base "_law_held" P_l_held i4 5:=be (k:=4) (N:=gz) (G:=k6) kin ns D22 pJ pE (by decide +kernel) (by decide +kernel) (by decide +kernel) fun X e1 e2 e3 e4 e5 e6 g dc=>rC e6 g dc ((a6.mono (by decide)).cal e1 e2 e3 e4 e5) ((a17.mono (by decide)).cal e1 e2 e3 e4 e5) ((a18.mono (by decide)).cal e1 e2 e3 e4 e5) ((a10.mono (by decide)).cal e1 e2 e3 e4 e5) ((a16.mono (by decide)).cal e1 e2 e3 e4 e5) ((a12.mono (by decide)).cal e1 e2 e3 e4 e5) ((a8.mono (by decide)).cal e1 e2 e3 e4 e5) (e4▸n5) (e4▸n2) (e4▸n7) (e4▸n9) (e4▸n4)
 have a23:FnAt P w K mg base "law" P_law f_law 6:=be (k:=5) (N:=kF) (G:=G_law) kin ns D23 sc_law pe (by decide +kernel) (by decide +kernel) (by decide +kernel) fun X e1 e2 e3 e4 e5 e6 g dc=>b_law e6 g dc ((a5.mono (by decide)).cal e1 e2 e3 e4 e5) ((a4.mono (by decide)).cal e1 e2 e3 e4 e5) ((a3.mono (by decide)).cal e1 e2 e3 e4 e5) ((a22.mono (by decide)).cal e1 e2 e3 e4 e5) ((a21.mono (by decide)).cal e1 e2 e3 e4 e5) ((a20.mono (by decide)).cal e1 e2 e3 e4 e5) ((a19.mono (by decide)).cal e1 e2 e3 e4 e5) ((a8.mono (by decide)).cal e1 e2 e3 e4 e5) ((a15.mono (by decide)).cal e1 e2 e3 e4 e5) ((a7.mono (by decide)).cal e1 e2 e3 e4 e5) (e4▸n9)
 exact a23
end Law
open PySem PySem.W PyProof.Rows
local macro_rules | `(tactic| and_intros) => `(tactic| (dsimp only [L2.KOf]; first | k_is | (refine' MM.defAt_mk ?a ?l ?c ?k; (case a => k_is); (case l => k_is); (case c => k_is); (case k => k_is))))
set_option maxRecDepth 100000 in
set_option maxHeartbeats 0 in
theorem PySem.Challenge.cw_fewfills_k37_answers_ways_mixes_holds : PySem.Challenge.rw_fewfills_k37_answers_ways_mixes.Holds := by
  w_on; o_law; k_head; (case hw=>w_witness2)
  k_fill
  refine MM.walk_M (l:=PySem.Challenge.rw_fewfills_k37_answers_ways_mixes) (k:=6) (x:="_law_script") (F:=Law.f_law) rfl rfl ⟨rfl,by decide,by decide,rfl⟩ (fun w h Y=>PySem.W.kIn_of Y) ?F Law.law_true
  case F=>
    intro w mg fa h KX G hmg
    have Dlaw:MM.DefAt (L2.KOf KX) "law" Law.hZ:=by and_intros
    have D0:MM.DefAt (L2.KOf KX) "comes_to" Law.cG:=by and_intros
    have D1:MM.DefAt (L2.KOf KX) "part_pairs" Law.cf:=by and_intros
    have D2:MM.DefAt (L2.KOf KX) "mixed_at" Law.cK:=by and_intros
    have D3:MM.DefAt (L2.KOf KX) "is_answer" Law.cz:=by and_intros
    have D4:MM.DefAt (L2.KOf KX) "is_way" Law.dv:=by and_intros
    have D5:MM.DefAt (L2.KOf KX) "is_mix" Law.dH:=by and_intros
    have D6:MM.DefAt (L2.KOf KX) "holds" Law.eK:=by and_intros
    have D7:MM.DefAt (L2.KOf KX) "_law_pen" Law.eM:=by and_intros
    have D8:MM.DefAt (L2.KOf KX) "_law_draw" Law.dy:=by and_intros
    have D9:MM.DefAt (L2.KOf KX) "_law_lowest" Law.cM:=by and_intros
    have D10:MM.DefAt (L2.KOf KX) "_law_number" Law.cR:=by and_intros
    have D11:MM.DefAt (L2.KOf KX) "_law_more" Law.dJ:=by and_intros
    have D12:MM.DefAt (L2.KOf KX) "_law_plus" Law.dz:=by and_intros
    have D13:MM.DefAt (L2.KOf KX) "_law_times" Law.dg:=by and_intros
    have D14:MM.DefAt (L2.KOf KX) "_law_comes" Law.dk:=by and_intros
    have D15:MM.DefAt (L2.KOf KX) "_law_parts" Law.dj:=by and_intros
    have D16:MM.DefAt (L2.KOf KX) "_law_of_all" Law.cN:=by and_intros
    have D17:MM.DefAt (L2.KOf KX) "_law_together" Law.ci:=by and_intros
    have D18:MM.DefAt (L2.KOf KX) "_law_bent" Law.dM:=by and_intros
    have D19:MM.DefAt (L2.KOf KX) "_law_answers" Law.cB:=by and_intros
    have D20:MM.DefAt (L2.KOf KX) "_law_ways" Law.dB:=by and_intros
    have D21:MM.DefAt (L2.KOf KX) "_law_mixes" Law.di:=by and_intros
    have D22:MM.DefAt (L2.KOf KX) "_law_held" Law.dw:=by and_intros
    have Z23:PySem.W.nsIn (L2.KOf KX) mainGlobals "abs" = some none:=by and_intros
    have Z24:PySem.W.nsIn (L2.KOf KX) mainGlobals "all" = some none:=by and_intros
    have Z25:PySem.W.nsIn (L2.KOf KX) mainGlobals "bool" = some none:=by and_intros
    have Z26:PySem.W.nsIn (L2.KOf KX) mainGlobals "dict" = some none:=by and_intros
    have Z27:PySem.W.nsIn (L2.KOf KX) mainGlobals "int" = some none:=by and_intros
    have Z28:PySem.W.nsIn (L2.KOf KX) mainGlobals "isinstance" = some none:=by and_intros
    have Z29:PySem.W.nsIn (L2.KOf KX) mainGlobals "len" = some none:=by and_intros
    have Z30:PySem.W.nsIn (L2.KOf KX) mainGlobals "list" = some none:=by and_intros
    have Z31:PySem.W.nsIn (L2.KOf KX) mainGlobals "min" = some none:=by and_intros
    have Z32:PySem.W.nsIn (L2.KOf KX) mainGlobals "range" = some none:=by and_intros
    have Z33:PySem.W.nsIn (L2.KOf KX) mainGlobals "tuple" = some none:=by and_intros
    have Z34:PySem.W.nsIn (L2.KOf KX) mainGlobals "zip" = some none:=by and_intros
    have YNOUGHT:MM.gg (L2.KOf KX) "NOUGHT" 0 1:=by
      dsimp only [L2.KOf]
      refine' MM.m8 ?h ?l
      (case h=>k_is)
      (case l=>k_is)
    have YONE:MM.gg (L2.KOf KX) "ONE" 1 1:=by
      dsimp only [L2.KOf]
      refine' MM.m8 ?h ?l
      (case h=>k_is)
      (case l=>k_is)
    exact MM.head_M Dlaw Law.pe hmg KX G fun base kb nb=>Law.all_fn kb nb D0 D1 D2 D3 D4 D5 D6 D7 D8 D9 D10 D11 D12 D13 D14 D15 D16 D17 D18 D19 D20 D21 D22 Dlaw Z23 Z24 Z25 Z26 Z27 Z28 Z29 Z30 Z31 Z32 Z33 Z34 YNOUGHT YONE
