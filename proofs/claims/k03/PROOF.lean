import PyProof.Rows.All
import Wide.All
import OpenK.AllK
import Wide.FinOn
import Lean
import PyProof.EqAt
import PyProof.EqKinds
import PyProof.TupleCall
import PyProof.ReprRoads
import PyProof.FitsInt
import PyProof.FitsBits
import PyProof.Rows.IntMath
import PyProof.ConsumeWalk
import PyProof.WalkInts
import PyProof.ListRange
import PyProof.ZipIter
import PyProof.Draws
import PyProof.EnumMake
import PyProof.TupleIter
import PyProof.P3Eq
import PySem.Challenge.RW_fewfills_k03_what_is_a_number
set_option Elab.async false
set_option linter.all false
set_option maxRecDepth 100000
namespace L2
open PySem PySem.Spec PyProof.Rows
abbrev Key:=Sum Int Str
def keyIs:Key→Value→Bool
 | .inl k,v=>Value.isInt k v
 | .inr x,v=>Value.isStrOf x v
def keyH (w:World):Key→Int
 | .inl k=>hashInt k
 | .inr x=>hashStr w x
theorem aA:∀{k:Key} {v:Value},keyIs k v=true→(∃i t,k=Sum.inl i∧v=Value.int i t)∨(∃x t,k=Sum.inr x∧v=Value.str x t)
 | .inl i,v,h=>by
  obtain ⟨t,e⟩:=Value.isInt_shape (k:=i) (v:=v) h
  exact .inl ⟨i,t,rfl,e⟩
 | .inr x,v,h=>by
  obtain ⟨t,e⟩:=Value.isStrOf_shape (x:=x) (v:=v) h
  exact .inr ⟨x,t,rfl,e⟩
theorem key_ll (a b:Int):decide ((Sum.inl a:Key)=Sum.inl b)=(a == b):=by
 by_cases e:a=b
 ·subst e;simp
 ·have h:¬(Sum.inl a:Key)=Sum.inl b:=fun q=>e (Sum.inl.inj q)
  rw[decide_eq_false h]
  exact (beq_eq_false_iff_ne.mpr e).symm
theorem key_rr (a b:Str):decide ((Sum.inr a:Key)=Sum.inr b)=decide (a=b):=by
 by_cases e:a=b
 ·subst e;simp
 ·have h:¬(Sum.inr a:Key)=Sum.inr b:=fun q=>e (Sum.inr.inj q)
  rw[decide_eq_false h,decide_eq_false e]
theorem key_lr (a:Int) (b:Str):decide ((Sum.inl a:Key)=Sum.inr b)=false:=decide_eq_false (fun q=>nomatch q)
theorem key_rl (a:Str) (b:Int):decide ((Sum.inr a:Key)=Sum.inl b)=false:=decide_eq_false (fun q=>nomatch q)
def ez (prog:Program) (w:World):PySem.KeyKind prog w Key where
 is:=keyIs
 hash:=keyH w
 inj:=fun v a b ha hb=>by
  rcases aA ha with ⟨i,t,rfl,rfl⟩|⟨x,t,rfl,rfl⟩
  ·rcases aA hb with ⟨j,u,rfl,e⟩|⟨y,u,rfl,e⟩
   ·injection e with e1 _;rw[e1]
   ·exact nomatch e
  ·rcases aA hb with ⟨j,u,rfl,e⟩|⟨y,u,rfl,e⟩
   ·exact nomatch e
   ·injection e with e1 _;rw[e1]
 byValue:=fun k v h=>by
  rcases aA h with ⟨i,t,rfl,rfl⟩|⟨x,t,rfl,rfl⟩ <;> rfl
 pyHash:=fun hv h=>by
  rcases aA hv with ⟨i,t,rfl,rfl⟩|⟨x,t,rfl,rfl⟩
  ·exact wpAny_pyHash_int h
  ·exact wpAny_pyHash_str h
 eqBool:=fun hu hv h=>by
  rcases aA hu with ⟨i,t,rfl,rfl⟩|⟨x,t,rfl,rfl⟩
  ·rcases aA hv with ⟨j,u,rfl,rfl⟩|⟨y,u,rfl,rfl⟩
   ·rw[key_ll] at h;exact wpAny_eqBool_int h
   ·rw[key_lr] at h;exact SeqAt.EqAt.int_str i t y u _ _ _ _ h
  ·rcases aA hv with ⟨j,u,rfl,rfl⟩|⟨y,u,rfl,rfl⟩
   ·rw[key_rl] at h;exact SeqAt.EqAt.str_int x t j u _ _ _ _ h
   ·rw[key_rr] at h;exact wpAny_eqBool_str h
 «strs»:=fun k x t v h=>by
  rcases aA h with ⟨i,u,rfl,e⟩|⟨y,u,rfl,e⟩
  ·exact nomatch e
  ·injection e with e1 _
   subst e1
   cases v <;> rfl
inductive V where
 | non | bl (b:Bool) | int (i:Int) | str (x:Str) | byt (b:Array UInt8) | flt (b:UInt64) | ref (a:Addr) | ty (n:String)
 deriving DecidableEq
def RelV:V→Value→Prop
 | .non,u=>u=Value.none
 | .bl b,u=>u=Value.bool b
 | .int i,u=>∃t,u=Value.int i t
 | .str x,u=>∃t,u=Value.str x t
 | .byt b,u=>∃t,u=Value.bytes b t
 | .flt b,u=>∃t,u=Value.float b t
 | .ref a,u=>u=Value.ref a
 | .ty n,u=>u=Value.type n
abbrev Vals:List V→List Value→Prop:=Paired RelV
theorem Vals.length {xs:List V} {us:List Value} (r:Vals xs us):xs.length=us.length:=Paired.length r
theorem Vals.get:∀{xs:List V} {us:List Value} {i:Nat} {x:V},Vals xs us→xs[i]?=some x→∃u,us[i]?=some u∧RelV x u
 | _,_,_,_,.nil,e=>by simp at e
 | _,_,0,_,.cons r _,e=>by simp at e;subst e;exact ⟨_,rfl,r⟩
 | _,_,i+1,x,.cons _ t,e=>by
  obtain ⟨u,h1,h2⟩:=Vals.get (i:=i) (x:=x) t (by simpa using e)
  exact ⟨u,by simpa using h1,h2⟩
theorem Vals.set {x:V} {u:Value} (r:RelV x u):∀{xs:List V} {us:List Value} (i:Nat),Vals xs us→Vals (xs.set i x) (us.set i u)
 | _,_,_,.nil=>.nil
 | _,_,0,.cons _ t=>.cons r t
 | _,_,i+1,.cons q t=>.cons q (Vals.set r i t)
theorem Vals.append:∀{xs ys:List V} {us ws:List Value},Vals xs us→Vals ys ws→Vals (xs++ys) (us++ws)
 | _,_,_,_,.nil,s=>s
 | _,_,_,_,.cons r t,s=>.cons r (Vals.append t s)
def RelO:Option V→Option Value→Prop
 | some v,some u=>RelV v u
 | none,none=>True
 | _,_=>False
def KV {κ:Type}:List (κ × V)→List (κ × Value)→Prop:=Paired fun (p:κ × V) (q:κ × Value)=>p.1=q.1∧RelV p.2 q.2
def kV:Key→V
 | .inl i=>.int i
 | .inr x=>.str x
inductive HO where
 | lst (xs:List V)
 | tup (xs:List V)
 | dK (kvs:List (Key × V)) | dT (kvs:List (List Key × V))
 | set (S:Int→Bool) (n:Nat)
 | ins (C dx:Addr) (fs:List (Str × V))
 | own (x:Addr)
 | xd (fs:List (Str × V))
 | met (f x:Addr)
 | rng (lo hi:Int)
 | frz (o:Obj) (u:HO)
 | tbl (ps:Array Value)
 | ext (φ:Heap→Prop)
abbrev Hp:=Addr→Option HO
def upd (H:Hp) (a:Addr) (o:HO):Hp:=fun b=>if b=a then some o else H b
theorem bO {H:Hp} {a:Addr} {o:HO}:upd H a o a=some o:=by unfold upd;rw[if_pos rfl]
theorem aq {H:Hp} {a b:Addr} {o:HO} (h:b≠a):upd H a o b=H b:=by unfold upd;rw[if_neg h]
theorem aE {H:Hp} {a b:Addr} {o:HO} (h:H a=some o) (h':H b=none):a≠b:=by
 intro e;subst e;rw[h] at h';cases h'
section
variable (P:Program) (w:World)
def ObjOk (H:Hp) (h:Heap) (a:Addr):HO→Prop
 | .lst xs=>xs.length≤sizeLine∧∃(its:List Value) (n:Nat),Vals xs its∧h.get? a=some { cls:=.type "list",data:=.seq its.toArray n}
 | .tup xs=>xs.length≤sizeLine∧∃its:List Value,Vals xs its∧IsTup h a its.toArray
 | .dK kvs=>kvs.length≤sizeLine∧(a == sysModules)=false∧∃vs,KV kvs vs∧h.DictOf (ez P w) a vs
 | .dT kvs=>kvs.length≤sizeLine∧(a == sysModules)=false∧∃xs:List (List Key × Addr × Value),
   Paired (fun (p:List Key × V) (q:List Key × Addr × Value)=>p.1=q.1∧H q.2.1=some (.tup (p.1.map kV))∧RelV p.2 q.2.2) kvs xs ∧
   ∃o es ep,h.get? a=some o∧o.ExactDict∧o.data=.dict es ep∧es.toList=xs.map (entryOfKey (tupleKind (ez P w)))∧(xs.map (·.1)).Nodup
 | .set S n=>h.SetOf (intKind P w) a S n
 | .ins C dx fs=>H dx=some (.own a)∧fs.length≤1000∧dx≠a∧h.get? a=some (PySem.W.instObj C dx) ∧
   ∃mA,h.Ns1 dx mA∧(∀f,RelO (fs.lookup f) (mA f))∧PySem.Within mA (fs.map (·.1))
 | .own _=>∃o,h.get? a=some o
 | .xd fs=>∃mA,h.Ns1 a mA∧∀f,RelO (fs.lookup f) (mA f)
 | .rng lo hi=>∃t u v,h.get? a=some { cls:=.type "range",data:=.fields #[.int lo t,.int hi u,.int 1 v]}
 | .frz o u=>h.get? a=some o∧ObjOk H h a u
 | .tbl ps=>h.get? a=some { cls:=.none,data:=.fields ps}
 | .met f x=>h.get? a=some (PySem.W.methodObj (.ref f) (.ref x))
 | .ext φ=>φ h∧(∃o,h.get? a=some o)∧∀h1 h2:Heap,φ h1→(∀o,h1.get? a=some o→h2.get? a=some o)→φ h2
def HOk (H:Hp) (h:Heap):Prop:=∀a o,H a=some o→ObjOk P w H h a o
end
section
variable {P:Program} {w:World} {H H':Hp} {h h':Heap} {a:Addr} {o:HO}
theorem ObjOk.lt (x:ObjOk P w H h a o):a<h.objs.size:=by
 cases o with
 | lst xs=>obtain ⟨_,_,_,_,e⟩:=x;exact Heap.lt_size e
 | tup xs=>obtain ⟨_,_,_,p⟩:=x;exact p.lt
 | dK kvs=>obtain ⟨_,_,_,_,o,_,_,e,_⟩:=x;exact Heap.lt_size e
 | dT kvs=>obtain ⟨_,_,_,_,o,_,_,e,_⟩:=x;exact Heap.lt_size e
 | set S n=>obtain ⟨o,_,_,_,e,_⟩:=x;exact Heap.lt_size e
 | ins C dx fs=>obtain ⟨_,_,_,e,_⟩:=x;exact Heap.lt_size e
 | own y=>obtain ⟨_,e⟩:=x;exact Heap.lt_size e
 | xd fs=>obtain ⟨_,⟨_,_,_,e,_⟩,_⟩:=x;exact Heap.lt_size e
 | rng lo hi=>obtain ⟨_,_,_,e⟩:=x;exact Heap.lt_size e
 | frz ob u=>obtain ⟨e,_⟩:=x;exact Heap.lt_size e
 | tbl ps=>exact Heap.lt_size (show h.get? a=some _ from x)
 | met f y=>exact Heap.lt_size (show h.get? a=some _ from x)
 | ext φ=>obtain ⟨_,⟨_,e⟩,_⟩:=x;exact Heap.lt_size e
theorem Paired.mapP {α β:Type} {F G:α→β→Prop}:∀{l₁:List α} {l₂:List β},Paired F l₁ l₂→(∀a b,F a b→G a b)→Paired G l₁ l₂
 | _,_,.nil,_=>.nil
 | _,_,.cons r t,f=>.cons (f _ _ r) (Paired.mapP t f)
theorem ObjOk.stay (x:ObjOk P w H h a o) (k:∀b u,(b=a∨H b=some (.own a))→h.get? b=some u→h'.get? b=some u)
  (ho:∀b,H b=some (.own a)→H' b=some (.own a)) (ht:∀b xs,H b=some (.tup xs)→H' b=some (.tup xs)):ObjOk P w H' h' a o:=by
 induction o with
 | lst xs=>obtain ⟨z,its,n,r,e⟩:=x;exact ⟨z,its,n,r,k _ _ (.inl rfl) e⟩
 | tup xs=>obtain ⟨z,its,r,ob,e,c⟩:=x;exact ⟨z,its,r,ob,k _ _ (.inl rfl) e,c⟩
 | dK kvs=>obtain ⟨z,y,vs,r,ob,es,ep,e,c⟩:=x;exact ⟨z,y,vs,r,ob,es,ep,k _ _ (.inl rfl) e,c⟩
 | dT kvs =>
  obtain ⟨z,y,xs,r,ob,es,ep,e,c⟩:=x
  exact ⟨z,y,xs,Paired.mapP r fun p q z=>⟨z.1,ht _ _ z.2.1,z.2.2⟩,ob,es,ep,k _ _ (.inl rfl) e,c⟩
 | set S n=>obtain ⟨ob,es,ep,t,e,c⟩:=x;exact ⟨ob,es,ep,t,k _ _ (.inl rfl) e,c⟩
 | ins C dx fs =>
  obtain ⟨d,z,ne,e,mA,⟨od,es,ep,e2,c⟩,r⟩:=x
  exact ⟨ho _ d,z,ne,k _ _ (.inl rfl) e,mA,⟨od,es,ep,k _ _ (.inr d) e2,c⟩,r⟩
 | own y=>obtain ⟨ob,e⟩:=x;exact ⟨ob,k _ _ (.inl rfl) e⟩
 | xd fs=>obtain ⟨mA,⟨od,es,ep,e,c⟩,r⟩:=x;exact ⟨mA,⟨od,es,ep,k _ _ (.inl rfl) e,c⟩,r⟩
 | rng lo hi=>obtain ⟨t,u,v,e⟩:=x;exact ⟨t,u,v,k _ _ (.inl rfl) e⟩
 | frz ob u ih=>obtain ⟨e,q⟩:=x;exact ⟨k _ _ (.inl rfl) e,ih q⟩
 | tbl ps =>
  have e:h.get? a=some { cls:=.none,data:=.fields ps}:=x
  show h'.get? a=some { cls:=.none,data:=.fields ps}
  exact k a _ (.inl rfl) e
 | met f y =>
  have e:h.get? a=some (PySem.W.methodObj (.ref f) (.ref y)):=x
  show h'.get? a=some (PySem.W.methodObj (.ref f) (.ref y))
  exact k a _ (.inl rfl) e
 | ext φ=>obtain ⟨p,⟨o,e⟩,st⟩:=x;exact ⟨st _ _ p fun o q=>k _ _ (.inl rfl) q,⟨o,k _ _ (.inl rfl) e⟩,st⟩
theorem HOk.lt (x:HOk P w H h) (e:H a=some o):a<h.objs.size:=(x a o e).lt
theorem HOk.fresh (x:HOk P w H h) (e:h.objs.size≤a):H a=none:=by
 cases q:H a with
 | none=>rfl
 | some u=>exact absurd (Nat.lt_of_lt_of_le (x.lt q) e) (Nat.lt_irrefl _)
theorem HOk.kept (x:HOk P w H h) (k:∀b u,h.get? b=some u→h'.get? b=some u):HOk P w H h':=fun a o e =>
 (x a o e).stay (fun b u _ q=>k b u q) (fun _ q=>q) fun _ _ q=>q
theorem HOk.laid (x:HOk P w H h) (k:∀b u,h.get? b=some u→h'.get? b=some u) (hp:h.objs.size≤a) (new:ObjOk P w (upd H a o) h' a o):HOk P w (upd H a o) h':=fun b u e=>by
 have hn:=x.fresh hp
 by_cases hb:b=a
 ·subst hb;rw[bO] at e;cases e;exact new
 ·rw[aq hb] at e
  exact (x b u e).stay (fun c v _ q=>k c v q) (fun c q=>by rw[aq (aE q hn)];exact q) fun c xs q=>by rw[aq (aE q hn)];exact q
end
def Rd (H:Hp) (a:Addr) (u:HO):Prop:=H a=some u∨∃o,H a=some (.frz o u)
theorem Rd.ok {P:Program} {w:World} {H:Hp} {h:Heap} {a:Addr} {u:HO} (r:Rd H a u) (x:HOk P w H h):ObjOk P w H h a u:=by
 rcases r with r|⟨o,r⟩
 ·exact x a u r
 ·obtain ⟨_,q⟩:=x a _ r
  exact q
def Mut:Option HO→Prop
 | some (.lst _)=>True
 | some (.dK _)=>True
 | some (.dT _)=>True
 | some (.set _ _)=>True
 | some (.ins _ _ _)=>True
 | some (.ext _)=>True
 | _=>False
section
variable {P:Program} {w:World} {H:Hp} {h h':Heap} {x e:Addr} {o':HO}
theorem HOk.write (ok:HOk P w H h) (mu:Mut (H x)) (he:e=x∨H e=some (.own x)) (k:∀b u,b≠e→h.get? b=some u→h'.get? b=some u) (heo:∃u,h'.get? e=some u)
  (new:ObjOk P w (upd H x o') h' x o'):HOk P w (upd H x o') h':=fun b u q=>by
 have nown:∀c y,H c=some (.own y)→c≠x:=fun c y r z=>by subst z;rw[r] at mu;exact mu
 have ntup:∀c xs,H c=some (.tup xs)→c≠x:=fun c xs r z=>by subst z;rw[r] at mu;exact mu
 by_cases hb:b=x
 ·subst hb;rw[bO] at q;cases q;exact new
 ·rw[aq hb] at q
  by_cases hbe:b=e
  ·have q':H b=some (.own x):=by
    rcases he with z|z
    ·exact absurd (hbe.trans z) hb
    ·rw[hbe];exact z
   rw[q] at q';cases q'
   obtain ⟨v,hv⟩:=heo
   exact ⟨v,by rw[hbe];exact hv⟩
  ·refine (ok b u q).stay (fun c v hc r=>k c v ?_ r) (fun c r=>by rw[aq (nown c b r)];exact r) fun c xs r=>by rw[aq (ntup c xs r)];exact r
   rcases hc with rfl|hc
   ·exact hbe
   ·rintro rfl
    rcases he with z|z
    ·exact nown c b hc z
    ·rw[hc] at z;cases z;exact hb rfl
end
structure Un (fs ex:List Addr) (H H':Hp) (h h':Heap):Prop where
 keep:∀b o,h.get? b=some o→H b=none→b∉fs→b∉ex→h'.get? b=some o
 slot:∀b o,h.get? b=some o→H b=none→b∈fs→b∉ex→∃sl,h'.get? b=some { o with slots:=sl}
 free:∀b o,h.get? b=some o→H b=none→b∉ex→H' b=none
 there:∀b o,h.get? b=some o→b∉ex→∃o',h'.get? b=some o'
 tups:∀b xs,H b=some (.tup xs)→H' b=some (.tup xs)
 frzs:∀b o u,H b=some (.frz o u)→H' b=some (.frz o u)
 tbls:∀b ps,H b=some (.tbl ps)→∃more,H' b=some (.tbl (ps++more))
section
variable {fs fs' ex ex':List Addr} {H H1 H2:Hp} {h h1 h2 h':Heap} {a x e:Addr} {o:HO}
theorem Un.any (u:Un fs ex H H1 h h1) {b:Addr} {ob:Obj} (q:h.get? b=some ob) (n:H b=none) (hx:b∉ex):∃sl,h1.get? b=some { ob with slots:=sl}:=by
 by_cases hb:b∈fs
 ·exact u.slot b ob q n hb hx
 ·exact ⟨ob.slots,u.keep b ob q n hb hx⟩
theorem Un.kept (k:∀b u,h.get? b=some u→h'.get? b=some u):Un fs ex H H h h' :=
 ⟨fun b ob q _ _ _=>k b ob q,fun b ob q _ _ _=>⟨ob.slots,k b ob q⟩,fun _ _ _ n _=>n,fun b ob q _=>⟨ob,k b ob q⟩,fun _ _ q=>q,fun _ _ _ q=>q,fun _ ps q=>⟨#[],by rw[q];simp⟩⟩
theorem Un.refl:Un fs ex H H h h:=Un.kept fun _ _ q=>q
theorem Un.laid (k:∀b u,h.get? b=some u→h'.get? b=some u) (hp:h.objs.size≤a) (hn:H a=none):Un fs ex H (upd H a o) h h' where
 keep:=fun b u q _ _ _=>k b u q
 slot:=fun b u q _ _ _=>⟨u.slots,k b u q⟩
 free:=fun b u q n _=>by rw[aq (Nat.ne_of_lt (Nat.lt_of_lt_of_le (Heap.lt_size q) hp))];exact n
 there:=fun b u q _=>⟨u,k b u q⟩
 tups:=fun b xs q=>by rw[aq (aE q hn)];exact q
 frzs:=fun b u xs q=>by rw[aq (aE q hn)];exact q
 tbls:=fun b ps q=>⟨#[],by rw[aq (aE q hn),q];simp⟩
theorem Un.write (mu:Mut (H x)) (he:e=x∨H e=some (.own x)) (k:∀b u,b≠e→h.get? b=some u→h'.get? b=some u) (heo:∃u,h'.get? e=some u):Un fs ex H (upd H x o) h h':=by
 have hx:∀b,H b=none→b≠x:=fun b n z=>by subst z;rw[n] at mu;exact mu
 have hb:∀b,H b=none→b≠e:=fun b n z=>by
  subst z
  rcases he with r|r
  ·exact hx b n r
  ·rw[n] at r;cases r
 have hm:∀b u,H b=some u→¬Mut (some u)→b≠x:=fun b u q nm z=>by subst z;rw[q] at mu;exact nm mu
 refine ⟨fun b u q n _ _=>k b u (hb b n) q,fun b u q n _ _=>⟨u.slots,k b u (hb b n) q⟩,fun b u q n _=>by rw[aq (hx b n)];exact n,fun b u q _=>?_,
  fun b xs q=>by rw[aq (hm b _ q fun z=>z)];exact q,fun b u xs q=>by rw[aq (hm b _ q fun z=>z)];exact q,fun b ps q=>⟨#[],by rw[aq (hm b _ q fun z=>z),q];simp⟩⟩
 by_cases hbe:b=e
 ·subst hbe;exact heo
 ·exact ⟨u,k b u hbe q⟩
end
def trk (h:Heap) (H:Hp):List Addr:=(List.range h.objs.size).filter fun a=>(H a).isSome
def hidT (h:Heap) (H:Hp):Heap:=PySem.W.hideAll h (trk h H)
theorem fJ (h:Heap) (H:Hp):(hidT h H).objs.size=h.objs.size:=PySem.W.hideAll_size _ _
theorem f7 {h:Heap} {H:Hp} {b:Addr} {o:Obj} (e:h.get? b=some o) (n:H b=none):(hidT h H).get? b=some o :=
 PySem.W.hideAll_get _ e fun hm=>by
  have q:(H b).isSome=true:=(List.mem_filter.mp hm).2
  rw[n] at q;simp at q
theorem of_hidT {h:Heap} {H:Hp} {b:Addr} {o:Obj} (e:(hidT h H).get? b=some o):h.get? b=some o∧H b=none:=by
 have e':h.get? b=some o:=PySem.W.of_hideAll (trk h H) e
 refine ⟨e',?_⟩
 cases q:H b with
 | none=>rfl
 | some x =>
  have hm:b∈trk h H:=List.mem_filter.mpr ⟨List.mem_range.mpr (Heap.lt_size e'),by simp[q]⟩
  have z:(hidT h H).get? b=none:=PySem.W.hideAll_none (trk h H) hm
  rw[z] at e;cases e
structure Mod (K:PySem.W.Frag) (mg:Str→Option Value) (base:Heap):Prop where
 kin:K.In base
 glob:base.Ns mainGlobals mg
 blt:∃mb,base.Ns builtinsNs mb∧∀x:Str,x≠"__name__"→mb x=bootBuiltins x
 nolimit:base.NoLimit
structure Cx where
 prog:Program
 w:World
 K:PySem.W.Frag
 mg:Str→Option Value
 base:Heap
 A:Around
 N:List Str
 s₀:Shared
 H₀:Hp
 env:Env
 outer:List Env
 stack:List Env
 ex:List Addr
 fn:Str→Bool
 calm:Bool
 pn:List (Addr × Obj)
 xe:Value→Shared→Prop
def frs (l:List Env):List Addr:=l.filterMap (·.frame)
abbrev Cx.fs (X:Cx):List Addr:=frs X.outer
def Vis (sc:Scope) (x:Str):Prop:=sc.names.lookup x=some .local∨sc.names.lookup x=some .cell∨sc.names.lookup x=some .free
def Loc (sc:Scope) (x:Str):Prop:=sc.names.lookup x=some .local∨sc.names.lookup x=some .cell
def Look (env:Env) (h:Heap) (m:Str→Option Value) (x:Str) (u:Value):Prop :=
 (env.kindOf x=some .local∧m x=some u)∨((env.kindOf x=some .cell∨env.kindOf x=some .free)∧∃c,env.cells.lookup x=some c∧h.IsCell c (some u))
structure Cx.Ok (X:Cx):Prop where
 mod:Mod X.K X.mg X.base
 kind:X.env.scope.kind=.function
 glob:X.env.globals=mainGlobals
 blt:X.env.builtins=builtinsNs
 above:X.s₀.heap.objs.size≤X.env.locals
 inj:∀x y c,X.env.cells.lookup x=some c→X.env.cells.lookup y=some c→x=y
 has:∀x,(X.env.kindOf x=some .cell∨X.env.kindOf x=some .free)→∃c,X.env.cells.lookup x=some c
 cab:∀x c,X.fn x=true→X.env.cells.lookup x=some c→X.s₀.heap.objs.size≤c
 hd:X.calm=true→X.A.handled=none
 frames:X.A.frames=some X.stack
 stk:X.stack=X.outer∨(X.stack=X.env::X.outer∧X.env.frame=some X.env.locals)
 exf:∀b∈X.ex,b≠X.env.locals∧∀x c,X.env.cells.lookup x=some c→c≠b
 bs:∀b o,X.base.get? b=some o→X.s₀.heap.get? b=some o∧X.H₀ b=none
 bsz:X.base.objs.size≤X.s₀.heap.objs.size
 noex:∀b o,X.base.get? b=some o→b∉X.ex
 exfs:∀b∈X.ex,b∉X.fs
 funs:X.s₀.heap.FunFrames X.base X.outer
 frf:∀b∈X.fs,X.H₀ b=none
structure Inv (X:Cx) (pins:List (Addr × Obj)) (σ:List (Option V)) (H:Hp) (s:Shared):Prop where
 ok:X.Ok
 os:s.os=X.s₀.os
 bare:AllBare s.gens
 base:Un X.fs X.ex X.H₀ H X.s₀.heap s.heap
 loc:∃m,s.heap.Ns X.env.locals m∧∀(i:Nat) (x:Str) (v:V),X.N[i]?=some x→σ[i]?=some (some v)→Vis X.env.scope x→∃u,RelV v u∧Look X.env s.heap m x u
 cell:∀x c,X.env.cells.lookup x=some c→∃v,s.heap.IsCell c v
 free:H X.env.locals=none
 freeC:∀x c,X.env.cells.lookup x=some c→H c=none
 pin:∀p∈X.pn++pins,s.heap.get? p.1=some p.2∧H p.1=none∧p.1≠X.env.locals∧p.1∉X.fs∧∀v,p.2.data≠.cell v
 hok:HOk X.prog X.w H s.heap
 len:σ.length=X.N.length
section
variable {X:Cx} {pins:List (Addr × Obj)} {σ:List (Option V)} {H H':Hp} {s:Shared} {h':Heap}
theorem Cx.Ok.nofr (ok:X.Ok) {b:Addr} {o:Obj} (e:X.base.get? b=some o):b∉X.fs:=fun hb=>by
 have:=(ok.funs.mem hb).1
 rw[e] at this;cases this
theorem Inv.bs (I:Inv X pins σ H s):∀b o,X.base.get? b=some o→s.heap.get? b=some o∧H b=none:=fun b o e =>
 ⟨I.base.keep b o (I.ok.bs b o e).1 (I.ok.bs b o e).2 (I.ok.nofr e) (I.ok.noex b o e),I.base.free b o (I.ok.bs b o e).1 (I.ok.bs b o e).2 (I.ok.noex b o e)⟩
theorem Inv.bk (I:Inv X pins σ H s):∀b o,X.base.get? b=some o→s.heap.get? b=some o:=fun b o e=>(I.bs b o e).1
theorem Inv.mod (I:Inv X pins σ H s):Mod X.K X.mg X.base:=I.ok.mod
theorem Inv.kIn (I:Inv X pins σ H s):X.K.In s.heap:=I.ok.mod.kin.keeps I.bk
theorem Inv.lt (I:Inv X pins σ H s):X.env.locals<s.heap.objs.size:=let ⟨_,hn,_⟩:=I.loc;hn.lt
theorem Inv.sz (I:Inv X pins σ H s):X.s₀.heap.objs.size≤s.heap.objs.size:=Nat.le_trans I.ok.above (Nat.le_of_lt I.lt)
theorem Inv.nofs (I:Inv X pins σ H s) {a:Addr} (h:s.heap.objs.size≤a):a∉X.fs:=fun hb=>by
 obtain ⟨_,o,ho,_⟩:=I.ok.funs.mem hb
 exact absurd (Nat.lt_of_lt_of_le (Heap.lt_size ho) (Nat.le_trans I.sz h)) (Nat.lt_irrefl _)
theorem Inv.cne (I:Inv X pins σ H s):∀x c,X.env.cells.lookup x=some c→c≠X.env.locals:=fun x c e z=>by
 obtain ⟨v,o,ho,hd⟩:=I.cell x c e
 obtain ⟨m,⟨o',es,ep,ho',hd',_⟩,_⟩:=I.loc
 rw[z,ho'] at ho;cases ho;rw[hd'] at hd;cases hd
theorem Inv.funs (I:Inv X pins σ H s):s.heap.FunFrames X.base X.outer:=by
 have all:∀(l:List Env),(∀b∈frs l,b∈X.fs)→X.s₀.heap.FunFrames X.base l→s.heap.FunFrames X.base l:=by
  intro l
  induction l with
  | nil=>intro _ _;trivial
  | cons env r ih =>
   intro hs hl
   obtain ⟨hk,⟨L,o,hf,hn,ho,hd⟩,hr⟩:=hl
   have hL:L∈X.fs:=hs L (by unfold frs;rw[List.filterMap_cons,hf];exact List.mem_cons_self)
   obtain ⟨sl,e⟩:=I.base.slot L o ho (I.ok.frf L hL) hL fun z=>I.ok.exfs L z hL
   exact ⟨hk,⟨L,_,hf,hn,e,hd⟩,ih (fun b hb=>hs b (by unfold frs;rw[List.filterMap_cons,hf];exact List.mem_cons_of_mem _ hb)) hr⟩
 exact all X.outer (fun _ hb=>hb) I.ok.funs
theorem Inv.stack (I:Inv X pins σ H s):s.heap.FunFrames X.base X.stack:=by
 rcases I.ok.stk with e|⟨e,hf⟩
 ·rw[e];exact I.funs
 ·rw[e]
  obtain ⟨m,hn,_⟩:=I.loc
  refine .cons (by rw[I.ok.kind];decide) hf hn ?_ I.funs
  exact Heap.get?_none_of_le (Nat.le_trans I.ok.bsz I.ok.above)
theorem Inv.stkSub (I:Inv X pins σ H s):∀b∈frs X.stack,b∈X.env.locals::X.fs:=fun b hb=>by
 rcases I.ok.stk with e|⟨e,hf⟩
 ·rw[e] at hb;exact List.mem_cons_of_mem _ hb
 ·rw[e] at hb
  unfold frs at hb
  rw[List.filterMap_cons,hf] at hb
  exact hb
theorem Inv.stkFree (I:Inv X pins σ H s):∀b∈frs X.stack,H b=none:=fun b hb=>by
 rcases List.mem_cons.mp (I.stkSub b hb) with e|hb
 ·rw[e];exact I.free
 ·obtain ⟨_,o,ho,_⟩:=I.ok.funs.mem hb
  exact I.base.free b o ho (I.ok.frf b hb) fun z=>I.ok.exfs b z hb
theorem Inv.step {g':Array GenState} {t':Nat} {d':Drawn} {ch:List Addr} (I:Inv X pins σ H s)
  (hch:∀b∈ch,(b∈X.ex∨X.s₀.heap.objs.size≤b)∧b≠X.env.locals∧(∀x c,X.env.cells.lookup x=some c→c≠b)∧∀p∈X.pn++pins,p.1≠b)
  (keep:∀b o,b≠X.env.locals→b∉X.fs→b∉ch→s.heap.get? b=some o→H b=none→h'.get? b=some o)
  (slot:∀b o,b≠X.env.locals→b∈X.fs→b∉ch→s.heap.get? b=some o→H b=none→∃sl,h'.get? b=some { o with slots:=sl}) (free:∀b o,b∉ch→s.heap.get? b=some o→H b=none→H' b=none)
  (there:∀b o,b∉ch→s.heap.get? b=some o→∃o',h'.get? b=some o')
  (tups:∀b xs,H b=some (.tup xs)→H' b=some (.tup xs)) (frzs:∀b o u,H b=some (.frz o u)→H' b=some (.frz o u)) (tbls:∀b ps,H b=some (.tbl ps)→∃more,H' b=some (.tbl (ps++more)))
  (ns:∀m,s.heap.Ns X.env.locals m→h'.Ns X.env.locals m) (hok:HOk X.prog X.w H' h') (hg:AllBare g') :
  Inv X pins σ H' { s with heap:=h',gens:=g',drawn:=d',toks:=t'}:=by
 have neL:∀b o,X.s₀.heap.get? b=some o→b≠X.env.locals:=fun b o e=>Nat.ne_of_lt (Nat.lt_of_lt_of_le (Heap.lt_size e) I.ok.above)
 have neC:∀b o,X.s₀.heap.get? b=some o→b∉X.ex→b∉ch:=fun b o e hx hb=>by
  rcases (hch b hb).1 with z|z
  ·exact hx z
  ·exact absurd (Nat.lt_of_lt_of_le (Heap.lt_size e) z) (Nat.lt_irrefl _)
 have cellK:∀x c,X.env.cells.lookup x=some c→∀v,s.heap.IsCell c v→h'.IsCell c v:=fun x c e v ⟨o,ho,hd⟩=>by
  have nch:c∉ch:=fun z=>(hch c z).2.2.1 x c e rfl
  by_cases hc:c∈X.fs
  ·obtain ⟨sl,q⟩:=slot c o (I.cne x c e) hc nch ho (I.freeC x c e)
   exact ⟨_,q,hd⟩
  ·exact ⟨o,keep c o (I.cne x c e) hc nch ho (I.freeC x c e),hd⟩
 refine ⟨I.ok,I.os,hg,⟨fun b o e n hb hx=>?_,fun b o e n hb hx=>?_,fun b o e n hx=>?_,fun b o e hx=>?_,fun b xs e=>tups b xs (I.base.tups b xs e),fun b o xs e=>frzs b o xs (I.base.frzs b o xs e),fun b ps e=>?_⟩,?_,fun x c e=>?_,?_,fun x c e=>?_,fun p hp=>?_,hok,I.len⟩
 ·exact keep b o (neL b o e) hb (neC b o e hx) (I.base.keep b o e n hb hx) (I.base.free b o e n hx)
 ·obtain ⟨sl,e1⟩:=I.base.slot b o e n hb hx
  obtain ⟨sl',e2⟩:=slot b _ (neL b o e) hb (neC b o e hx) e1 (I.base.free b o e n hx)
  exact ⟨sl',e2⟩
 ·obtain ⟨o',e1⟩:=I.base.there b o e hx
  exact free b o' (neC b o e hx) e1 (I.base.free b o e n hx)
 ·obtain ⟨o',e1⟩:=I.base.there b o e hx
  exact there b o' (neC b o e hx) e1
 ·obtain ⟨m1,e1⟩:=I.base.tbls b ps e
  obtain ⟨m2,e2⟩:=tbls b _ e1
  exact ⟨m1++m2,by rw[e2,Array.append_assoc]⟩
 ·obtain ⟨m,hn,hl⟩:=I.loc
  refine ⟨m,ns m hn,fun i x v e1 e2 e3=>?_⟩
  obtain ⟨u,r,l⟩:=hl i x v e1 e2 e3
  refine ⟨u,r,?_⟩
  rcases l with l|⟨k,c,e,z⟩
  ·exact .inl l
  ·exact .inr ⟨k,c,e,cellK x c e _ z⟩
 ·obtain ⟨v,z⟩:=I.cell x c e
  exact ⟨v,cellK x c e v z⟩
 ·obtain ⟨m,⟨o,_,_,ho,_⟩,_⟩:=I.loc
  exact free _ o (fun z=>(hch _ z).2.1 rfl) ho I.free
 ·obtain ⟨v,o,ho,hd⟩:=I.cell x c e
  exact free c o (fun z=>(hch c z).2.2.1 x c e rfl) ho (I.freeC x c e)
 ·obtain ⟨e,n,ne,nf,d⟩:=I.pin p hp
  have nch:p.1∉ch:=fun z=>(hch p.1 z).2.2.2 p hp rfl
  exact ⟨keep p.1 p.2 ne nf nch e n,free p.1 p.2 nch e n,ne,nf,d⟩
theorem Inv.un {t':Nat} (I:Inv X pins σ H s) (u:Un X.fs [] H H' s.heap h') (hok:HOk X.prog X.w H' h'):Inv X pins σ H' { s with heap:=h',toks:=t'}:=by
 obtain ⟨m,⟨o,es,ep,ho,r⟩,_⟩:=id I.loc
 obtain ⟨sl,hL⟩:=u.any ho I.free (by simp)
 exact I.step (g':=s.gens) (d':=s.drawn) (ch:=[]) (fun _ z=>nomatch z) (fun b o _ hb _ e n=>u.keep b o e n hb (by simp)) (fun b o _ hb _ e n=>u.slot b o e n hb (by simp)) (fun b o _ e n=>u.free b o e n (by simp)) (fun b o _ e=>u.there b o e (by simp)) u.tups u.frzs u.tbls (fun m' hm=>by
  obtain ⟨o',es',ep',ho',r'⟩:=hm
  rw[ho] at ho';cases ho'
  exact ⟨_,es',ep',hL,r'⟩) hok I.bare
theorem Inv.call {g':Array GenState} {t':Nat} {d':Drawn} {ch:List Addr} (I:Inv X pins σ H s) (u:Un (frs X.stack) ch H H' s.heap h') (hok:HOk X.prog X.w H' h') (hg:AllBare g')
  (hch:∀b∈ch,(b∈X.ex∨X.s₀.heap.objs.size≤b)∧b≠X.env.locals∧(∀x c,X.env.cells.lookup x=some c→c≠b)∧∀p∈X.pn++pins,p.1≠b) :
  Inv X pins σ H' { s with heap:=h',gens:=g',drawn:=d',toks:=t'}:=by
 obtain ⟨m,⟨o,es,ep,ho,r⟩,_⟩:=id I.loc
 obtain ⟨sl,hL⟩:=u.any ho I.free fun z=>(hch _ z).2.1 rfl
 exact I.step (ch:=ch) hch (fun b o hL hb hc e n=>u.keep b o e n (fun z=>(List.mem_cons.mp (I.stkSub b z)).elim hL hb) hc) (fun b o _ _ hc e n=>u.any e n hc) (fun b o hc e n=>u.free b o e n hc) (fun b o hc e=>u.there b o e hc) u.tups u.frzs u.tbls (fun m' hm=>by
  obtain ⟨o',es',ep',ho',r'⟩:=hm
  rw[ho] at ho';cases ho'
  exact ⟨_,es',ep',hL,r'⟩) hok hg
theorem Inv.turned {t':Nat} {it:Addr} (I:Inv X pins σ H s) (k:∀b o,b≠it→s.heap.get? b=some o→h'.get? b=some o) (hn:H it=none) (hL:it≠X.env.locals)
  (h1:it∈X.ex∨X.s₀.heap.objs.size≤it) (h2:∀x c,X.env.cells.lookup x=some c→c≠it) (h3:∀p∈X.pn++pins,p.1≠it):Inv X pins σ H { s with heap:=h',toks:=t'}:=by
 have nit:∀b u,H b=some u→b≠it:=fun b u e z=>by rw[z,hn] at e;cases e
 refine I.step (g':=s.gens) (d':=s.drawn) (ch:=[it]) (fun b hb=>?_) (fun b o _ _ hc e _=>k b o (fun z=>hc (by simp[z])) e) (fun b o _ _ hc e _=>⟨o.slots,k b o (fun z=>hc (by simp[z])) e⟩) (fun _ _ _ _ n=>n)
  (fun b o hc e=>⟨o,k b o (fun z=>hc (by simp[z])) e⟩) (fun _ _ e=>e) (fun _ _ _ e=>e) (fun b ps e=>⟨#[],by rw[e];simp⟩) (fun m hm=>?_) (fun b u e=>?_) I.bare
 ·have e:b=it:=by simpa using hb
  subst e
  exact ⟨h1,hL,h2,h3⟩
 ·obtain ⟨o,es,ep,ho,r⟩:=hm
  exact ⟨o,es,ep,k _ o (Ne.symm hL) ho,r⟩
 ·refine (I.hok b u e).stay (fun c v hc q=>k c v ?_ q) (fun _ q=>q) fun _ _ q=>q
  rcases hc with z|z
  ·rw[z];exact nit b u e
  ·exact nit c _ z
theorem Inv.tok (I:Inv X pins σ H s) (t:Nat):Inv X pins σ H { s with toks:=t}:=I.un (h':=s.heap) (t':=t) Un.refl I.hok
theorem Inv.kept {t':Nat} (I:Inv X pins σ H s) (k:∀b u,s.heap.get? b=some u→h'.get? b=some u):Inv X pins σ H { s with heap:=h',toks:=t'}:=I.un (Un.kept k) (I.hok.kept k)
theorem Inv.laid {a:Addr} {o:HO} {t':Nat} (I:Inv X pins σ H s) (k:∀b u,s.heap.get? b=some u→h'.get? b=some u) (hp:s.heap.objs.size≤a) (new:ObjOk X.prog X.w (upd H a o) h' a o) :
  Inv X pins σ (upd H a o) { s with heap:=h',toks:=t'}:=I.un (Un.laid k hp (I.hok.fresh hp)) (I.hok.laid k hp new)
theorem Inv.write {x e:Addr} {o:HO} {t':Nat} (I:Inv X pins σ H s) (mu:Mut (H x)) (he:e=x∨H e=some (.own x)) (k:∀b u,b≠e→s.heap.get? b=some u→h'.get? b=some u) (heo:∃u,h'.get? e=some u)
  (new:ObjOk X.prog X.w (upd H x o) h' x o):Inv X pins σ (upd H x o) { s with heap:=h',toks:=t'}:=I.un (Un.write mu he k heo) (I.hok.write mu he k heo new)
theorem Inv.pins_of {pins':List (Addr × Obj)} (I:Inv X pins σ H s) (h:∀p∈pins',s.heap.get? p.1=some p.2∧H p.1=none∧p.1≠X.env.locals∧p.1∉X.fs∧∀v,p.2.data≠.cell v):Inv X pins' σ H s :=
 ⟨I.ok,I.os,I.bare,I.base,I.loc,I.cell,I.free,I.freeC,fun p hp=>(List.mem_append.mp hp).elim (fun z=>I.pin p (List.mem_append_left _ z)) (h p),I.hok,I.len⟩
theorem dD {N:List Str} (hN:N.Nodup) {i j:Nat} {x:Str} (a:N[i]?=some x) (b:N[j]?=some x):i=j:=by
 obtain ⟨h1,e1⟩:=List.getElem?_eq_some_iff.mp a
 obtain ⟨h2,e2⟩:=List.getElem?_eq_some_iff.mp b
 exact (List.getElem_inj hN).mp (e1.trans e2.symm)
theorem fI {M:Model} {A:Around} {E:Value→Shared→Prop} {i:Nat} {x:Str} {v:V} {u:Value} {Q:Unit→Shared→Prop} (I:Inv X pins σ H s) (hN:X.N.Nodup) (hi:X.N[i]?=some x) (hx:Loc X.env.scope x) (r:RelV v u)
  (h:∀s',Inv X pins (σ.set i (some v)) H s'→(∃a,Heap.SameBut a s.heap s'.heap∧(a=X.env.locals∨X.env.cells.lookup x=some a))→Q () s') (hf:X.fn x=true∨X.env.scope.names.lookup x=some .local:=by first | exact .inl rfl | exact .inr rfl | assumption):wpAny M A (storeName X.env x u) Q E s:=by
 obtain ⟨m,hn,hl⟩:=id I.loc
 have hcls:(X.env.scope.kind == .class || (X.env.scope.kind == .module && X.env.locals != X.env.globals))=false:=by rw[I.ok.kind];rfl
 have hiσ:i<σ.length:=by rw[I.len];exact (List.getElem?_eq_some_iff.mp hi).1
 have cne:=I.cne
 have tracked:∀{a:Addr} {h':Heap},(∃o,s.heap.get? a=some o∧H a=none)→Heap.SameBut a s.heap h'→HOk X.prog X.w H h':=fun {a h'} ha hs b ob e=>by
  obtain ⟨_,_,hfree⟩:=ha
  refine (I.hok b ob e).stay (fun c w' hc q=>(hs.2 c ?_).trans q) (fun _ q=>q) fun _ _ q=>q
  rintro rfl
  rcases hc with rfl|hc
  ·rw[hfree] at e;cases e
  ·rw[hfree] at hc;cases hc
 rcases hx with hk|hk
 ·refine wpAny_storeName_local hk hn (fun h' hn' hs=>?_) hcls
  obtain ⟨oL,_,_,hoL,_⟩:=id hn
  refine h _ ⟨I.ok,I.os,I.bare,⟨fun b o e n hb hx=>?_,fun b o e n hb hx=>?_,I.base.free,fun b o e hx=>?_,I.base.tups,I.base.frzs,I.base.tbls⟩,⟨_,hn',fun j y v' e1 e2 e3=>?_⟩,fun y c e=>?_,I.free,I.freeC,fun p hp=>?_,tracked ⟨oL,hoL,I.free⟩ hs,by simpa using I.len⟩ ⟨_,hs,.inl rfl⟩
  ·exact (hs.2 b (Nat.ne_of_lt (Nat.lt_of_lt_of_le (Heap.lt_size e) I.ok.above))).trans (I.base.keep b o e n hb hx)
  ·obtain ⟨sl,e1⟩:=I.base.slot b o e n hb hx
   exact ⟨sl,(hs.2 b (Nat.ne_of_lt (Nat.lt_of_lt_of_le (Heap.lt_size e) I.ok.above))).trans e1⟩
  ·obtain ⟨o',e1⟩:=I.base.there b o e hx
   exact ⟨o',(hs.2 b (Nat.ne_of_lt (Nat.lt_of_lt_of_le (Heap.lt_size e) I.ok.above))).trans e1⟩
  ·by_cases hj:j=i
   ·subst hj
    rw[hi] at e1;cases e1
    rw[List.getElem?_set_self hiσ] at e2
    cases e2
    exact ⟨u,r,.inl ⟨hk,by simp⟩⟩
   ·rw[List.getElem?_set_ne (Ne.symm hj)] at e2
    obtain ⟨u',r',q⟩:=hl j y v' e1 e2 e3
    refine ⟨u',r',?_⟩
    rcases q with ⟨k,e⟩|⟨k,c,e,z⟩
    ·refine .inl ⟨k,?_⟩
     have:y≠x:=fun e=>hj (dD hN e1 (e▸hi))
     simp[this,e]
    ·exact .inr ⟨k,c,e,z.sameBut hs (cne y c e)⟩
  ·obtain ⟨w',z⟩:=I.cell y c e
   exact ⟨w',z.sameBut hs (cne y c e)⟩
  ·obtain ⟨e,n,ne,nf,d⟩:=I.pin p hp
   exact ⟨(hs.2 p.1 ne).trans e,n,ne,nf,d⟩
 ·have hfn:X.fn x=true:=by
   rcases hf with z|z
   ·exact z
   ·rw[z] at hk;cases hk
  obtain ⟨c,hc⟩:=I.ok.has x (.inl hk)
  obtain ⟨w',z⟩:=I.cell x c hc
  refine wpAny_storeName_cell I.ok.kind hk hc z (fun h' hc' hs=>?_)
  obtain ⟨oc,hoc,hocd⟩:=id z
  refine h { s with heap:=h'} ⟨I.ok,I.os,I.bare,⟨fun b o e n hb hx=>?_,fun b o e n hb hx=>?_,I.base.free,fun b o e hx=>?_,I.base.tups,I.base.frzs,I.base.tbls⟩,⟨m,hn.sameBut hs (Ne.symm (cne x c hc)),fun j y v' e1 e2 e3=>?_⟩,fun y c' e=>?_,I.free,I.freeC,fun p hp=>?_,tracked ⟨oc,hoc,I.freeC x c hc⟩ hs,by simpa using I.len⟩ ⟨c,hs,.inr hc⟩
  ·exact (hs.2 b (Nat.ne_of_lt (Nat.lt_of_lt_of_le (Heap.lt_size e) (I.ok.cab x c hfn hc)))).trans (I.base.keep b o e n hb hx)
  ·obtain ⟨sl,e1⟩:=I.base.slot b o e n hb hx
   exact ⟨sl,(hs.2 b (Nat.ne_of_lt (Nat.lt_of_lt_of_le (Heap.lt_size e) (I.ok.cab x c hfn hc)))).trans e1⟩
  ·obtain ⟨o',e1⟩:=I.base.there b o e hx
   exact ⟨o',(hs.2 b (Nat.ne_of_lt (Nat.lt_of_lt_of_le (Heap.lt_size e) (I.ok.cab x c hfn hc)))).trans e1⟩
  ·by_cases hj:j=i
   ·subst hj
    rw[hi] at e1;cases e1
    rw[List.getElem?_set_self hiσ] at e2
    cases e2
    exact ⟨u,r,.inr ⟨.inl hk,c,hc,hc'⟩⟩
   ·rw[List.getElem?_set_ne (Ne.symm hj)] at e2
    obtain ⟨u',r',q⟩:=hl j y v' e1 e2 e3
    refine ⟨u',r',?_⟩
    rcases q with q|⟨k,c',e,z'⟩
    ·exact .inl q
    ·refine .inr ⟨k,c',e,z'.sameBut hs ?_⟩
     rintro rfl
     exact hj (dD hN e1 (I.ok.inj _ _ _ e hc▸hi))
  ·by_cases hcc:c'=c
   ·subst hcc;exact ⟨_,hc'⟩
   ·obtain ⟨w2,z2⟩:=I.cell y c' e
    exact ⟨w2,z2.sameBut hs hcc⟩
  ·obtain ⟨e,n,ne,nf,d⟩:=I.pin p hp
   refine ⟨(hs.2 p.1 ?_).trans e,n,ne,nf,d⟩
   intro q
   rw[q,hoc] at e
   have q':oc=p.2:=Option.some.inj e
   exact d w' (by rw[←q'];exact hocd)
theorem cb {M:Model} {A:Around} {E:Value→Shared→Prop} {i:Nat} {x:Str} {v:V} {u:Value} {Q:Unit→Shared→Prop} (I:Inv X pins σ H s) (hN:X.N.Nodup) (hi:X.N[i]?=some x) (hx:Loc X.env.scope x) (r:RelV v u)
  (h:∀s',Inv X pins (σ.set i (some v)) H s'→Q () s') (hf:X.fn x=true∨X.env.scope.names.lookup x=some .local:=by first | exact .inl rfl | exact .inr rfl | assumption):wpAny M A (storeName X.env x u) Q E s :=
 fI I hN hi hx r (fun s' I' _=>h s' I') hf
theorem Inv.call' {s':Shared} {ch:List Addr} (I:Inv X pins σ H s) (ho:s'.os=s.os) (u:Un (frs X.stack) ch H H' s.heap s'.heap) (hok:HOk X.prog X.w H' s'.heap) (hg:AllBare s'.gens)
  (hch:∀b∈ch,(b∈X.ex∨X.s₀.heap.objs.size≤b)∧b≠X.env.locals∧(∀x c,X.env.cells.lookup x=some c→c≠b)∧∀p∈X.pn++pins,p.1≠b):Inv X pins σ H' s':=by
 obtain ⟨h',g',d',t',o'⟩:=s'
 have e:o'=s.os:=ho
 subst e
 exact I.call (g':=g') (t':=t') (d':=d') u hok hg hch
end
abbrev XK:=Value→Option Addr→Hp→Prop
abbrev St:=List (Option V)
abbrev VK:=V→Hp→Prop
abbrev TE:=St→Hp→VK→Prop
abbrev TT:=St→Hp→(Bool→Hp→Prop)→Prop
abbrev TA:=St→Hp→(List V→Hp→Prop)→Prop
structure Ends where
 nx:St→Hp→Prop
 rt:VK
 bk:St→Hp→Prop:=fun _ _=>False
 ct:St→Hp→Prop:=fun _ _=>False
abbrev TS:=Ends→St→Hp→Prop
def EP (X:Cx) (pins:List (Addr × Obj)) (σ:St) (Q:VK) (u:Value) (s':Shared):Prop:=∃v H',Inv X pins σ H' s'∧RelV v u∧Q v H'
def TP (X:Cx) (pins:List (Addr × Obj)) (σ:St) (Q:Bool→Hp→Prop) (b:Bool) (s':Shared):Prop:=∃H',Inv X pins σ H' s'∧Q b H'
def AP (X:Cx) (pins:List (Addr × Obj)) (σ:St) (Q:List V→Hp→Prop) (us:List Value) (s':Shared):Prop:=∃vs H',Inv X pins σ H' s'∧Vals vs us∧Q vs H'
def SP (X:Cx) (pins:List (Addr × Obj)) (D:Ends) (f:Flow) (s':Shared):Prop :=
 match f with
 | .next=>∃σ' H',Inv X pins σ' H' s'∧D.nx σ' H'
 | .brk=>∃σ' H',Inv X pins σ' H' s'∧D.bk σ' H'
 | .cont=>∃σ' H',Inv X pins σ' H' s'∧D.ct σ' H'
 | .ret u=>∃v σ' H',Inv X pins σ' H' s'∧RelV v u∧D.rt v H'
def PE (X:Cx) (e:Expr) (t:TE):Prop :=
 ∀(pins:List (Addr × Obj)) (s:Shared) (σ:St) (H:Hp) (Q:VK),Inv X pins σ H s→t σ H Q→wpAny (model X.prog X.w) X.A (eval e X.env) (EP X pins σ Q) X.xe s
def PT (X:Cx) (e:Expr) (t:TT):Prop :=
 ∀(pins:List (Addr × Obj)) (s:Shared) (σ:St) (H:Hp) (Q:Bool→Hp→Prop),Inv X pins σ H s→t σ H Q→wpAny (model X.prog X.w) X.A (isTrue e X.env (eval e X.env)) (TP X pins σ Q) X.xe s
def PW (X:Cx) (e:Expr) (t:TT):Prop :=
 ∀(whole:Sem Value) (pins:List (Addr × Obj)) (s:Shared) (σ:St) (H:Hp) (Q:Bool→Hp→Prop),Inv X pins σ H s→t σ H Q→wpAny (model X.prog X.w) X.A (isTrue e X.env whole) (TP X pins σ Q) X.xe s
theorem PW.pt {X:Cx} {e:Expr} {t:TT} (h:PW X e t):PT X e t:=h _
def PA (X:Cx) (es:List Expr) (t:TA):Prop :=
 ∀(pos:Pos) (pins:List (Addr × Obj)) (s:Shared) (σ:St) (H:Hp) (Q:List V→Hp→Prop),Inv X pins σ H s→t σ H Q→wpAny (model X.prog X.w) X.A (spliced (backTo pos (starEach es X.env))) (AP X pins σ Q) X.xe s
def PS (X:Cx) (st:Stmt) (t:TS):Prop :=
 ∀(pins:List (Addr × Obj)) (s:Shared) (σ:St) (H:Hp) (D:Ends),Inv X pins σ H s→t D σ H→wpAny (model X.prog X.w) X.A (exec st X.env) (SP X pins D) X.xe s
def PSs (X:Cx) (st:List Stmt) (t:TS):Prop :=
 ∀(pins:List (Addr × Obj)) (s:Shared) (σ:St) (H:Hp) (D:Ends),Inv X pins σ H s→t D σ H→wpAny (model X.prog X.w) X.A (execs st X.env) (SP X pins D) X.xe s
theorem thn {α:Type} {t:Sem α} {Q Q':α→Shared→Prop} {M:Model} {A:Around} {E:Value→Shared→Prop} {s:Shared} (h:wpAny M A t Q E s) (hQ:∀a s,Q a s→Q' a s):wpAny M A t Q' E s:=wpAny_mono h hQ fun _ _ x=>x
section
variable {X:Cx}
def tVar (i:Nat):TE:=fun σ H Q=>∃v,σ[i]?=some (some v)∧Q v H
def tC (v:V):TE:=fun _ H Q=>Q v H
theorem pe_var {i:Nat} {x:Str} {pos:Pos} (hN:X.N[i]?=some x) (hv:Vis X.env.scope x) (hd:(x == ("__debug__":Str))=false:=by decide) (hcd:(x == ("__classdict__":Str))=false:=by decide):PE X (.Name x pos) (tVar i):=by
 intro pins s σ H Q I h
 obtain ⟨v,e,h⟩:=h
 obtain ⟨m,hn,hl⟩:=I.loc
 obtain ⟨u,r,l⟩:=hl i x v hN e hv
 have fin:EP X pins σ Q u s:=⟨v,H,I,r,h⟩
 rcases l with ⟨hk,hm⟩|⟨hk,c,hc,hcell⟩
 ·exact wpAny_Name (wpAny_loadName_local I.ok.kind hk hn hm fin) hd
 ·rcases hk with hk|hk
  ·exact wpAny_Name (wpAny_loadName_cell I.ok.kind hk hc hcell fin) hd
  ·exact wpAny_Name (wpAny_loadName_free I.ok.kind hk hc hcell fin hcd) hd
theorem pe_int {i j pos}:PE X (.Constant (.int i) j pos) (tC (.int i)):=fun _ _ _ H _ I h=>wpAny_Constant_int ⟨.int i,H,I.tok _,⟨_,rfl⟩,h⟩
theorem pe_bl {b j pos}:PE X (.Constant (.bool b) j pos) (tC (.bl b)):=fun _ _ _ H _ I h=>Constant_bool ⟨.bl b,H,I,rfl,h⟩
theorem pe_non {j pos}:PE X (.Constant .none j pos) (tC .non):=fun _ _ _ H _ I h=>Constant_none ⟨.non,H,I,rfl,h⟩
theorem pe_str {x j pos}:PE X (.Constant (.str x) j pos) (tC (.str x)):=fun _ _ _ H _ I h=>Calls.Constant_str ⟨.str x,H,I.tok _,⟨_,rfl⟩,h⟩
def Gl (X:Cx) (x:Str):Prop:=X.env.kindOf x=some .globalImplicit
theorem ld_glob {E:Value→Shared→Prop} {pins:List (Addr × Obj)} {s:Shared} {σ:St} {H:Hp} {x:Str} {u:Value} {pos:Pos} {Q:Value→Shared→Prop} (I:Inv X pins σ H s) (hg:Gl X x) (hm:X.mg x=some u) (h:Q u s)
  (hd:(x == ("__debug__":Str))=false:=by decide):wpAny (model X.prog X.w) X.A (eval (.Name x pos) X.env) Q E s :=
 Calls.Name_function_global I.ok.kind hg (Calls.loadGlobal_global (by rw[I.ok.glob];exact I.mod.glob.keeps I.bk) hm h) hd
theorem cU {E:Value→Shared→Prop} {pins:List (Addr × Obj)} {s:Shared} {σ:St} {H:Hp} {x:Str} {u:Value} {pos:Pos} {Q:Value→Shared→Prop} (I:Inv X pins σ H s) (hg:Gl X x) (hm:X.mg x=none) (hv:bootBuiltins x=some u) (h:Q u s)
  (hn:x≠"__name__":=by decide) (hd:(x == ("__debug__":Str))=false:=by decide):wpAny (model X.prog X.w) X.A (eval (.Name x pos) X.env) Q E s:=by
 obtain ⟨mb,h1,h2⟩:=I.mod.blt
 exact Calls.Name_function_global I.ok.kind hg (Calls.loadGlobal_builtin (by rw[I.ok.glob];exact I.mod.glob.keeps I.bk) hm (by rw[I.ok.blt];exact h1.keeps I.bk) ((h2 x hn).trans hv) h) hd
theorem pe_bltn {x:Str} {v:V} {u:Value} {pos:Pos} (hg:Gl X x) (hm:X.mg x=none) (hv:bootBuiltins x=some u) (r:RelV v u) (hn:x≠"__name__":=by decide) (hd:(x == ("__debug__":Str))=false:=by decide):PE X (.Name x pos) (tC v) :=
 fun _ _ _ H _ I h=>cU I hg hm hv ⟨v,H,I,r,h⟩ hn hd
variable {a b:Expr} {ta tb:TE} {pos:Pos}
def tB (t:TE):TT:=fun σ H Q=>t σ H fun x H1=>∃c,x=.bl c∧Q c H1
theorem pt_val {e:Expr} {t:TE} (h:PE X e t) (he:∀whole,isTrue e X.env whole=(do let v ←whole;standAt e.pos;holding [v] (truthy v)):=by intro _;rfl):PT X e (tB t):=by
 intro pins s σ H Q I hw
 refine isTrue_plain (thn (h pins s σ H _ I hw) fun v s1 ⟨x,H1,I1,r1,q1⟩=>?_) (he _)
 obtain ⟨d,rfl,q⟩:=q1
 cases r1
 exact wpAny_truthy_bool ⟨H1,I1,q⟩
variable {tA tB':TT} {rest:List Expr}
def tOr (t u:TT):TT:=fun σ H Q=>t σ H fun c H1=>if c=true then Q true H1 else u σ H1 Q
def tNot (t:TT):TT:=fun σ H Q=>t σ H fun c H1=>Q (!c) H1
theorem pw_or1 (ha:PT X a tA):PW X (.BoolOp .Or [a] pos) tA:=by
 intro wh pins s σ H Q I h
 refine isTrue_or (thn (ha pins s σ H Q I h) fun c s1 e=>?_)
 cases c with
 | false=>exact isTrue_or_nil e
 | true=>exact e
theorem pw_or (ha:PT X a tA) (hb:PW X (.BoolOp .Or (b::rest) pos) tB'):PW X (.BoolOp .Or (a::b::rest) pos) (tOr tA tB'):=by
 intro wh pins s σ H Q I h
 refine isTrue_or (thn (ha pins s σ H _ I h) fun c s1 ⟨H1,I1,q1⟩=>?_)
 cases c with
 | true=>exact ⟨H1,I1,q1⟩
 | false=>exact hb wh pins s1 σ H1 Q I1 q1
theorem pt_not (ha:PT X a tA):PT X (.UnaryOp .Not a pos) (tNot tA):=by
 intro pins s σ H Q I h
 exact isTrue_not (ha pins s σ H (fun c H1=>Q (!c) H1) I h)
def tAndV (ta tb:TE):TE:=fun σ H Q=>ta σ H fun x H1=>∃c,x=.bl c∧if c=true then tb σ H1 Q else Q (.bl false) H1
def tNotV (ta:TE):TE:=fun σ H Q=>ta σ H fun x H1=>∃c,x=.bl c∧Q (.bl (!c)) H1
theorem pe_one {op} {t:TE} (h:PE X a t):PE X (.BoolOp op [a] pos) t:=fun pins s σ H Q I hw=>BoolOp_one (h pins s σ H Q I hw)
theorem pe_and (ha:PE X a ta) (hb:PE X (.BoolOp .And (b::rest) pos) tb):PE X (.BoolOp .And (a::b::rest) pos) (tAndV ta tb):=by
 intro pins s σ H Q I h
 refine BoolOp_and (thn (ha pins s σ H _ I h) fun v s1 ⟨x,H1,I1,r1,q1⟩=>?_)
 obtain ⟨c,rfl,q1⟩:=q1
 cases r1
 refine wpAny_truthy_bool ?_
 cases c with
 | true=>exact hb pins s1 σ H1 Q I1 q1
 | false=>exact ⟨.bl false,H1,I1,rfl,q1⟩
theorem pe_not (ha:PE X a ta):PE X (.UnaryOp .Not a pos) (tNotV ta):=by
 intro pins s σ H Q I h
 refine UnaryOp_ (thn (ha pins s σ H _ I h) fun v s1 ⟨x,H1,I1,r1,q1⟩=>?_)
 obtain ⟨c,rfl,q1⟩:=q1
 cases r1
 exact not_of (wpAny_truthy_bool ⟨.bl (!c),H1,I1,rfl,q1⟩)
end
def SqL (K:PySem.W.Frag) (H:Hp) (a:Addr) (xs:List V):Prop :=
 Rd H a (.lst xs) ∨
  ∃(o:Obj) (its:Array Value) (n:Nat),K.lookup a=some o∧o.cls=.type "list"∧o.dict=none∧o.data=.seq its n∧its.size≤sizeLine∧Vals xs its.toList
def SqT (K:PySem.W.Frag) (H:Hp) (a:Addr) (xs:List V):Prop :=
 Rd H a (.tup xs) ∨
  ∃(o:Obj) (its:Array Value) (n:Nat),K.lookup a=some o∧o.cls=.type "tuple"∧o.data=.seq its n∧its.size≤sizeLine∧Vals xs its.toList
def absV:Value→Option V
 | .none=>some .non
 | .bool b=>some (.bl b)
 | .int i _=>some (.int i)
 | .str x _=>some (.str x)
 | .bytes b _=>some (.byt b)
 | .float b _=>some (.flt b)
 | .ref a=>some (.ref a)
 | .type n=>some (.ty n)
 | _=>none
theorem RelV.abs {x:V} {u:Value} (r:RelV x u):absV u=some x:=by
 cases x with
 | non=>cases r;rfl
 | bl _=>cases r;rfl
 | int _=>obtain ⟨t,rfl⟩:=r;rfl
 | str _=>obtain ⟨t,rfl⟩:=r;rfl
 | byt _=>obtain ⟨t,rfl⟩:=r;rfl
 | flt _=>obtain ⟨t,rfl⟩:=r;rfl
 | ref _=>cases r;rfl
 | ty _=>cases r;rfl
theorem RelV.inj {x y:V} {u:Value} (r:RelV x u) (q:RelV y u):x=y:=Option.some.inj (r.abs.symm.trans q.abs)
theorem Vals.inj:∀{xs ys:List V} {us:List Value},Vals xs us→Vals ys us→xs=ys
 | _,_,_,.nil,.nil=>rfl
 | _,_,_,.cons r t,.cons r' t'=>by rw[r.inj r',Vals.inj t t']
section
variable {X:Cx} {pins:List (Addr × Obj)} {σ:St} {H:Hp} {s:Shared} {a:Addr} {xs ys:List V}
theorem SqL.of {K:PySem.W.Frag} (h:H a=some (.lst xs)):SqL K H a xs:=.inl (.inl h)
theorem Inv.list (I:Inv X pins σ H s) (h:SqL X.K H a xs):∃its:List Value,Vals xs its∧PlainL s.heap a its.toArray∧xs.length≤sizeLine:=by
 rcases h with h|⟨o,its,n,hk,hc,hd,hs,hz,r⟩
 ·obtain ⟨z,its,n,r,e⟩:=h.ok I.hok
  exact ⟨its,r,⟨_,n,e,rfl,rfl,rfl⟩,z⟩
 ·refine ⟨its.toList,r,⟨o,n,I.kIn a o hk,hc,hd,by simpa using hs⟩,?_⟩
  have e:=r.length
  simp only[Array.length_toList] at e
  omega
theorem Inv.tuple (I:Inv X pins σ H s) (h:SqT X.K H a xs):∃its:List Value,Vals xs its∧IsTup s.heap a its.toArray∧xs.length≤sizeLine:=by
 rcases h with h|⟨o,its,n,hk,hc,hs,hz,r⟩
 ·obtain ⟨z,its,r,p⟩:=h.ok I.hok
  exact ⟨its,r,p,z⟩
 ·refine ⟨its.toList,r,⟨o,I.kIn a o hk,hc,n,by simpa using hs⟩,?_⟩
  have e:=r.length
  simp only[Array.length_toList] at e
  omega
theorem Inv.list_inj (I:Inv X pins σ H s) (h:SqL X.K H a xs) (h':SqL X.K H a ys):xs=ys:=by
 obtain ⟨its,r,⟨o,n,e,_,_,d⟩,_⟩:=I.list h
 obtain ⟨its',r',⟨o',n',e',_,_,d'⟩,_⟩:=I.list h'
 rw[e] at e';cases e'
 rw[d] at d'
 injection d' with d1 _
 have:its=its':=by simpa using congrArg Array.toList d1
 subst this
 exact r.inj r'
theorem Inv.tuple_inj (I:Inv X pins σ H s) (h:SqT X.K H a xs) (h':SqT X.K H a ys):xs=ys:=by
 obtain ⟨its,r,⟨o,e,_,n,d⟩,_⟩:=I.tuple h
 obtain ⟨its',r',⟨o',e',_,n',d'⟩,_⟩:=I.tuple h'
 rw[e] at e';cases e'
 rw[d] at d'
 injection d' with d1 _
 have:its=its':=by simpa using congrArg Array.toList d1
 subst this
 exact r.inj r'
end
section
variable {X:Cx} {pins:List (Addr × Obj)} {σ:St} {H:Hp} {s:Shared} {E:Value→Shared→Prop}
end
section
variable {X:Cx} {st:Stmt} {rest:List Stmt} {t u:TS} {e:Expr} {te:TE} {pos:Pos}
def tNext:TS:=fun D σ H=>D.nx σ H
def tSeq (t u:TS):TS:=fun D σ H=>t { D with nx:=u D} σ H
theorem pss_nil:PSs X [] tNext:=fun _ _ σ H _ I h=>wpAny_execs_nil ⟨σ,H,I,h⟩
theorem gi (h1:PS X st t) (h2:PSs X rest u):PSs X (st::rest) (tSeq t u):=by
 intro pins s σ H D I h
 refine wpAny_execs_cons (thn (h1 pins s σ H { D with nx:=u D} I h) fun f s1 q=>?_)
 cases f with
 | next =>
  obtain ⟨σ',H',I',q⟩:=q
  exact h2 pins s1 σ' H' D I' q
 | ret v=>exact q
 | brk=>exact q
 | cont=>exact q
theorem pss_one (h1:PS X st t):PSs X [st] t:=by
 intro pins s σ H D I h
 refine wpAny_execs_cons (thn (h1 pins s σ H D I h) fun f s1 q=>?_)
 cases f with
 | next=>exact wpAny_execs_nil q
 | ret v=>exact q
 | brk=>exact q
 | cont=>exact q
def tRet (te:TE):TS:=fun D σ H=>te σ H D.rt
theorem ps_ret (he:PE X e te):PS X (.Return (some e) pos) (tRet te):=by
 intro pins s σ H D I h
 exact wpAny_Return_some (thn (he pins s σ H _ I h) fun v s1 ⟨x,H1,I1,r1,q1⟩=>⟨x,σ,H1,I1,r1,q1⟩)
def tIfS (c:TT) (t u:TS):TS:=fun D σ H=>c σ H fun b H1=>if b=true then t D σ H1 else u D σ H1
theorem ps_if {c:Expr} {a b:List Stmt} {tc:TT} (hc:PT X c tc) (ha:PSs X a t) (hb:PSs X b u):PS X (.If c a b pos) (tIfS tc t u):=by
 intro pins s σ H D I h
 refine wpAny_If (thn (hc pins s σ H _ I h) fun d s1 ⟨H1,I1,q1⟩=>?_)
 cases d with
 | true=>exact ha pins s1 σ H1 D I1 q1
 | false=>exact hb pins s1 σ H1 D I1 q1
end
abbrev TG:=V→St→Hp→(St→Hp→Prop)→Prop
abbrev TGs:=List V→St→Hp→(St→Hp→Prop)→Prop
def PG (X:Cx) (target:Expr) (t:TG):Prop :=
 ∀(pins:List (Addr × Obj)) (s:Shared) (σ:St) (H:Hp) (v:V) (u:Value) (Q:St→Hp→Prop),Inv X pins σ H s→RelV v u→t v σ H Q →
  wpAny (model X.prog X.w) X.A (assign target X.env u) (fun _ s'=>∃σ' H',Inv X pins σ' H' s'∧Q σ' H') X.xe s
def PGs (X:Cx) (ts:List Expr) (t:TGs):Prop :=
 ∀(pins:List (Addr × Obj)) (s:Shared) (σ:St) (H:Hp) (vs:List V) (us:List Value) (Q:St→Hp→Prop),Inv X pins σ H s→Vals vs us→t vs σ H Q →
  wpAny (model X.prog X.w) X.A (assignInOrder ((assignEach ts X.env).map (·.2)) us) (fun _ s'=>∃σ' H',Inv X pins σ' H' s'∧Q σ' H') X.xe s
abbrev TSet:=V→V→V→Hp→(Hp→Prop)→Prop
def PSet (X:Cx) (t:TSet):Prop :=
 ∀(pins:List (Addr × Obj)) (s:Shared) (σ:St) (H:Hp) (o i v:V) (ov iv u:Value) (Q:Hp→Prop),Inv X pins σ H s→RelV o ov→RelV i iv→RelV v u→t o i v H Q →
  wpAny (model X.prog X.w) X.A (setItem ov iv u) (fun _ s'=>∃H',Inv X pins σ H' s'∧Q H') X.xe s
section
variable {X:Cx} {pos:Pos}
def gName (i:Nat):TG:=fun v σ H Q=>Q (σ.set i (some v)) H
theorem pg_name {i:Nat} {x:Str} (hN:X.N.Nodup) (hi:X.N[i]?=some x) (hx:Loc X.env.scope x) (hf:X.fn x=true∨X.env.scope.names.lookup x=some .local:=by first | exact .inl rfl | exact .inr rfl | assumption):PG X (.Name x pos) (gName i):=by
 intro pins s σ H v u Q I r h
 exact wpAny_assign_Name (cb I hN hi hx r (fun s' I'=>⟨_,H,I',h⟩) hf)
def gNil:TGs:=fun vs σ H Q=>vs=[]∧Q σ H
def gCons (t:TG) (u:TGs):TGs:=fun vs σ H Q=>∃v r,vs=v::r∧t v σ H fun σ' H'=>u r σ' H' Q
theorem pgs_nil:PGs X [] gNil:=by
 intro pins s σ H vs us Q I r h
 obtain ⟨e,h⟩:=h
 subst e
 cases r
 exact assignInOrder_nil ⟨σ,H,I,h⟩
theorem gh {e:Expr} {es:List Expr} {t:TG} {u:TGs} (h1:PG X e t) (h2:PGs X es u)
  (hs:(assignEach (e::es) X.env).map (·.2)=assign e X.env::(assignEach es X.env).map (·.2):=by rfl):PGs X (e::es) (gCons t u):=by
 intro pins s σ H vs us Q I r h
 obtain ⟨v,vr,e1,h⟩:=h
 subst e1
 cases r with
 | cons r rr =>
  rw[hs]
  refine assignInOrder_cons (thn (h1 pins s σ H _ _ _ I r h) fun _ s1 ⟨σ1,H1,I1,q1⟩=>?_)
  exact h2 pins s1 σ1 H1 _ _ Q I1 rr q1
def gTup (K:PySem.W.Frag) (n:Nat) (t:TGs):TG:=fun v σ H Q=>∃a xs,v=.ref a∧SqT K H a xs∧xs.length=n∧t xs σ H Q
theorem pg_tup {es:List Expr} {k:Nat} {t:TGs} {n:Nat} (hc:X.calm=true) (h:PGs X es t)
  (hn:(assignEach es X.env).length=n:=by rfl) (hst:(assignEach es X.env).findIdx? (·.1)=none:=by rfl):PG X (.Tuple es k pos) (gTup X.K n t):=by
 intro pins s σ H v u Q I r hw
 obtain ⟨a,xs,e1,hq,hl,hw⟩:=hw
 subst e1
 cases r
 obtain ⟨its,rv,ht,hz⟩:=I.tuple hq
 refine assign_Tuple_tuple (I.ok.hd hc) ht (by simp[hn,←hl,rv.length]) hst fun h' hx=>?_
 have I1:Inv X pins σ H { s with heap:=h'}:=I.kept (t':=s.toks) fun b o e=>hx b o (Nat.ne_of_lt (Heap.lt_size e)) e
 exact h pins _ σ H xs _ Q I1 (by simpa using rv) hw
def gSub (to ti:TE) (t:TSet):TG:=fun v σ H Q=>to σ H fun o H1=>ti σ H1 fun i H2=>t o i v H2 fun H3=>Q σ H3
theorem pg_sub {o i:Expr} {to ti:TE} {t:TSet} (ho:PE X o to) (hi:PE X i ti) (hs:PSet X t)
  (ha:∀v,assign (.Subscript o i pos) X.env v=(do
   let ov ←holding [v] (eval o X.env)
   let iv ←holding [v,ov] (eval i X.env)
   standAt pos
   holding [v,ov,iv] (setItem ov iv v)
   release [v,ov,iv] []):=by intro _;rfl):PG X (.Subscript o i pos) (gSub to ti t):=by
 intro pins s σ H v u Q I r h
 rw[ha]
 refine wpAny_bind (wpAny_holding (thn (ho pins s σ H _ I h) fun ov s1 ⟨x,H1,I1,r1,q1⟩=>?_))
 refine wpAny_bind (wpAny_holding (thn (hi pins s1 σ H1 _ I1 q1) fun iv s2 ⟨y,H2,I2,r2,q2⟩=>?_))
 refine wpAny_bind (wpAny_standAt (wpAny_bind (wpAny_holding (thn (hs pins s2 σ H2 x y v ov iv u _ I2 r1 r2 r q2) fun _ s3 ⟨H3,I3,q3⟩=>?_))))
 exact wpAny_release ⟨σ,H3,I3,q3⟩
def tAsg (te:TE) (g:TG):TS:=fun D σ H=>te σ H fun x H1=>g x σ H1 D.nx
theorem ps_asg {tg e:Expr} {te:TE} {g:TG} (he:PE X e te) (hg:PG X tg g) (hs:swapsWithSole [tg] e pos.line X.env=pure false:=by rfl) (hw:swappedStores [tg] e X.env=pure none:=by rfl)
  (h1:(assignEach [tg] X.env).map (·.2)=[assign tg X.env]:=by rfl):PS X (.Assign [tg] e pos) (tAsg te g):=by
 intro pins s σ H D I h
 refine wpAny_Assign_stores (thn (he pins s σ H _ I h) fun v s1 ⟨x,H1,I1,r1,q1⟩=>?_) hs hw
 rw[h1]
 exact thn (hg pins s1 σ H1 x v _ I1 r1 q1) fun _ s2 q=>q
theorem ps_set {i:Nat} {x:Str} {e:Expr} {te:TE} {pos':Pos} (hN:X.N.Nodup) (hi:X.N[i]?=some x) (hx:Loc X.env.scope x) (he:PE X e te) (hs:swapsWith e (some (.Name x pos')) pos.line X.env=pure false:=by rfl) (hf:X.fn x=true∨X.env.scope.names.lookup x=some .local:=by first | exact .inl rfl | exact .inr rfl | assumption) :
  PS X (.Assign [.Name x pos'] e pos) (tAsg te (gName i)):=by
 intro pins s σ H D I h
 refine wpAny_Assign_Name (thn (he pins s σ H _ I h) fun v s1 ⟨y,H1,I1,r1,q1⟩=>?_) hs
 exact cb I1 hN hi hx r1 (fun s2 I2=>⟨_,H1,I2,q1⟩) hf
def tPar (i j:Nat) (ta:TA):TS:=fun D σ H=>ta σ H fun vs H1=>∃v w,vs=[v,w]∧D.nx ((σ.set i (some v)).set j (some w)) H1
theorem ps_par {i j:Nat} {x y:Str} {a b:Expr} {ta:TA} {px py pt:Pos} {kt k2 pt2} (hc:X.calm=true) (hN:X.N.Nodup) (hi:X.N[i]?=some x) (hj:X.N[j]?=some y) (hij:i≠j)
  (hx:X.env.scope.names.lookup x=some .local) (hy:X.env.scope.names.lookup y=some .local) (ha:PA X [a,b] ta)
  (hw:swappedStores [.Tuple [.Name x px,.Name y py] kt pt] (.Tuple [a,b] k2 pt2) X.env=pure (some [x,y]))
  (hs:swapsWithSole [.Tuple [.Name x px,.Name y py] kt pt] (.Tuple [a,b] k2 pt2) pos.line X.env=pure false:=by rfl) :
  PS X (.Assign [.Tuple [.Name x px,.Name y py] kt pt] (.Tuple [a,b] k2 pt2) pos) (tPar i j ta):=by
 intro pins s σ H D I h
 rw[exec_Assign_arm]
 refine wpAny_bind (wpAny_standAt ?_)
 rw[hs]
 refine wpAny_bind (wpAny_pure ?_)
 rw[if_neg (by decide)]
 refine wpAny_bind (Tuple_ (thn (ha _ pins s σ H _ I h) fun us s1 ⟨vs,H1,I1,r1,q1⟩=>?_))
 obtain ⟨v,w,e1,q1⟩:=q1
 subst e1
 obtain ⟨u1,u2,rfl,rv,rw'⟩:∃u1 u2,us=[u1,u2]∧RelV v u1∧RelV w u2:=by
  cases r1 with
  | cons p q =>
   cases q with
   | cons p' q' =>
    cases q'
    exact ⟨_,_,rfl,p,p'⟩
 refine wpAny_newObj_type ?_ (by show 2≤sizeLine;decide)
 have I2:Inv X pins σ H1 { s1 with heap:=s1.heap.push { cls:=.type "tuple",data:=.seq [u1,u2].toArray}}:=I1.kept (t':=s1.toks) fun b o e=>Heap.get?_push_of_some _ e
 rw[hw]
 refine wpAny_bind (wpAny_pure ?_)
 show wpAny (model X.prog X.w) X.A (do rule "assign.swapped-stores";let items ←unpackItems (.ref s1.heap.objs.size) 2 none;assignInOrder [fun v=>bindName X.env y v,fun v=>bindName X.env x v] items.reverse;pure Flow.next) _ _ _
 refine wpAny_bind (wpAny_rule (wpAny_bind (unpackItems_tuple (items:=#[u1,u2]) (I.ok.hd hc) (IsTup.new s1.heap _) fun h' hx'=>?_)))
 have I3:=I2.kept (h':=h') (t':=s1.toks) fun b o e=>hx' b o (Nat.ne_of_lt (Heap.lt_size e)) e
 show wpAny _ _ (assignInOrder [fun v=>bindName X.env y v,fun v=>bindName X.env x v] [u2,u1] >>= fun _=>pure Flow.next) _ _ _
 refine wpAny_bind (assignInOrder_cons (wpAny_bindName (cb I3 hN hj (.inl hy) rw' (fun s2 I4=>?_) (.inr hy))))
 refine assignInOrder_cons (wpAny_bindName (cb I4 hN hi (.inl hx) rv (fun s3 I5=>assignInOrder_nil (wpAny_pure ?_)) (.inr hx)))
 rw[List.set_comm _ _ (Ne.symm hij)] at I5
 exact ⟨_,H1,I5,q1⟩
end
section
variable {X:Cx} {pos:Pos}
def tWhile (c:TT) (tb:TS):TS:=fun D σ H=>∃W:Nat→St→Hp→Prop,(∃m,W m σ H)∧∀m σ H,W m σ H →
 c σ H fun b H1=>if b=true then ∃N:St→Hp→Prop,(∀σ' H',N σ' H'→∃m',m'<m∧W m' σ' H')∧tb { D with nx:=N,ct:=N,bk:=D.nx} σ H1 else D.nx σ H1
theorem gc {c:Expr} {body:List Stmt} {tc:TT} {tb:TS} (hp:PassesOwn (model X.prog X.w) X.A X.env X.xe) (hc:PT X c tc) (hb:PSs X body tb):PS X (.While c body [] pos) (tWhile tc tb):=by
 intro pins s σ H D I h
 obtain ⟨W,⟨m0,w0⟩,turn⟩:=h
 refine wpAny_While (codeAny_whileLoop (fun n s'=>∃σ' H',Inv X pins σ' H' s'∧W n σ' H') ?_ m0 ⟨σ,H,I,w0⟩)
 rintro n s1 ⟨σ1,H1,I1,w1⟩
 refine wpAny_passesOwn hp (thn (hc pins s1 σ1 H1 _ I1 (turn n σ1 H1 w1)) fun b s2 ⟨H2,I2,q2⟩=>?_)
 cases b with
 | true =>
  obtain ⟨N,hN,q2⟩:=q2
  rw[if_pos rfl]
  refine wpAny_passesOwn hp (thn (hb pins s2 σ1 H2 _ I2 q2) fun f s3 q3=>?_)
  cases f with
  | next =>
   obtain ⟨σ3,H3,I3,n3⟩:=q3
   obtain ⟨m',hm,w3⟩:=hN σ3 H3 n3
   exact ⟨m',hm,σ3,H3,I3,w3⟩
  | cont =>
   obtain ⟨σ3,H3,I3,n3⟩:=q3
   obtain ⟨m',hm,w3⟩:=hN σ3 H3 n3
   exact ⟨m',hm,σ3,H3,I3,w3⟩
  | brk=>exact q3
  | ret v=>exact q3
 | false =>
  rw[if_neg Bool.false_ne_true]
  exact wpAny_execs_nil ⟨σ1,H2,I2,q2⟩
end
structure It where
 go:Nat→Hp→Prop
 yld:Nat→Hp→V→Hp→Prop
 stop:Nat→Hp→Prop
def FpOk (X:Cx) (pins:List (Addr × Obj)) (H:Hp) (b:Addr):Prop :=
 H b=none∧b≠X.env.locals∧b∉X.fs∧(b∈X.ex∨X.s₀.heap.objs.size≤b)∧(∀x c,X.env.cells.lookup x=some c→c≠b)∧∀p∈X.pn++pins,p.1≠b
theorem Inv.fpOk {X:Cx} {pins:List (Addr × Obj)} {σ:St} {H H':Hp} {s:Shared} {b:Addr} (I:Inv X pins σ H s) (hb:s.heap.objs.size≤b) (hn:H' b=none):FpOk X pins H' b:=by
 refine ⟨hn,Nat.ne_of_gt (Nat.lt_of_lt_of_le I.lt hb),I.nofs hb,.inr (Nat.le_trans I.sz hb),fun x c e z=>?_,fun p hp z=>?_⟩
 ·obtain ⟨v,q⟩:=I.cell x c e
  exact absurd (Nat.lt_of_lt_of_le q.lt (by rw[z];exact hb)) (Nat.lt_irrefl _)
 ·exact absurd (Nat.lt_of_lt_of_le (Heap.lt_size (I.pin p hp).1) (by rw[z];exact hb)) (Nat.lt_irrefl _)
structure Turn (P:Program) (w:World) (K:PySem.W.Frag) (tg:Expr) (J:It) (fp:List Addr) (it:Addr) (tn:Nat→Heap→Prop):Prop where
 mem:it∈fp
 obj:∀i h,tn i h→∀b∈fp,∃o,h.get? b=some o∧∀v,o.data≠.cell v
 keep:∀i h h',tn i h→(∀b∈fp,∀o,h.get? b=some o→h'.get? b=some o)→tn i h'
 item:∀(X:Cx),X.prog=P→X.w=w→X.K=K→X.calm=true→∀(i:Nat) (pins:List (Addr × Obj)) (s:Shared) (σ:St) (H:Hp) (E:Value→Shared→Prop),Inv X pins σ H s→(∀b∈fp,FpOk X pins H b)→tn i s.heap→J.go i H →
  wpAny (model P w) X.A (pyNext (.ref it)) (fun r s1=>∃u,r=some u ∧
   wpAny (model P w) X.A (letOwnedTupleGo tg (.ref it) u) (fun _ s2=>∃x H',Inv X pins σ H' s2∧RelV x u∧J.yld i H x H'∧tn (i+1) s2.heap∧∀b∈fp,H' b=none) E s1) E s
 done:∀(X:Cx),X.prog=P→X.w=w→X.K=K→X.calm=true→∀(i:Nat) (pins:List (Addr × Obj)) (s:Shared) (σ:St) (H:Hp) (E:Value→Shared→Prop),Inv X pins σ H s→(∀b∈fp,FpOk X pins H b)→tn i s.heap→J.stop i H →
  wpAny (model P w) X.A (pyNext (.ref it)) (fun r s1=>r=none∧Inv X pins σ H s1) E s
 self:∀(A:Around) (i:Nat) (s:Shared) (Q:Value→Shared→Prop) (E:Value→Shared→Prop),tn i s.heap→Q (.ref it) s→wpAny (model P w) A (pyIter (.ref it)) Q E s
abbrev TI:=St→Hp→(It→Hp→Prop)→Prop
def PIE (X:Cx) (pins:List (Addr × Obj)) (σ:St) (tg:Expr) (R:It→Hp→Prop) (itv:Value) (s2:Shared):Prop :=
 ∃(it:Addr) (fp:List Addr) (tn:Nat→Heap→Prop) (J:It) (H':Hp),itv=.ref it∧Inv X pins σ H' s2∧Turn X.prog X.w X.K tg J fp it tn∧tn 0 s2.heap∧(∀b∈fp,FpOk X pins H' b)∧R J H'
def PI (X:Cx) (tg iter:Expr) (wi:TI):Prop :=
 ∀(pins:List (Addr × Obj)) (s:Shared) (σ:St) (H:Hp) (R:It→Hp→Prop),Inv X pins σ H s→wi σ H R →
  wpAny (model X.prog X.w) X.A (eval iter X.env) (fun v s1=>wpAny (model X.prog X.w) X.A (pyIter v) (PIE X pins σ tg R) X.xe s1) X.xe s
theorem ff {M:Model} {A:Around} {E:Value→Shared→Prop} {s:Shared} {tg:Expr} {it:Addr} {u:Value} {o:Obj} {n:String} {vs:Array Value} {Q:Unit→Shared→Prop} (ho:s.heap.get? it=some o) (hc:o.cls=.type n) (hd:o.data=.fields vs)
  (hn:["enumerate","zip","dict_itemiterator","dict_reverseitemiterator","odict_iterator","itertools.zip_longest","itertools.pairwise"].contains n=false) (hQ:Q () s):wpAny M A (letOwnedTupleGo tg (.ref it) u) Q E s:=by
 unfold letOwnedTupleGo
 cases tg <;> first
  | exact wpAny_pure hQ
  | (cases u <;> first
    | exact wpAny_pure hQ
    | (refine wpAny_bind (wpAny_load ho ?_)
       rw[hc,hd]
       show wpAny M A (if (["enumerate","zip","dict_itemiterator","dict_reverseitemiterator","odict_iterator","itertools.zip_longest","itertools.pairwise"].contains n && vs[0]? == some (rawInt _))=true then _ else _) Q E s
       rw[if_neg (by intro h;rw[hn,Bool.false_and] at h;cases h)]
       exact wpAny_pure hQ))
def Itl (K:PySem.W.Frag) (a:Addr):It :=
 ⟨fun i H=>∃xs x,SqL K H a xs∧xs[i]?=some x,fun i H x H'=>H'=H∧∀xs,SqL K H a xs→xs[i]?=some x,fun i H=>∃xs,SqL K H a xs∧xs.length≤i⟩
def Itt (K:PySem.W.Frag) (a:Addr):It :=
 ⟨fun i H=>∃xs x,SqT K H a xs∧xs[i]?=some x,fun i H x H'=>H'=H∧∀xs,SqT K H a xs→xs[i]?=some x,fun i H=>∃xs,SqT K H a xs∧xs.length≤i⟩
def Itr (lo:Int) (n:Nat):It:=⟨fun i _=>i<n,fun i H x H'=>H'=H∧x=.int (lo+i),fun i _=>n≤i⟩
theorem fE {P:Program} {w:World} {K:PySem.W.Frag} {tg:Expr} (a it:Addr):Turn P w K tg (Itl K a) [it] it (fun i h=>h.IsListIter it a i) where
 mem:=by simp
 obj:=fun i h st b hb=>by
  have e:b=it:=by simpa using hb
  subst e
  obtain ⟨o,e,c,d⟩:=st
  exact ⟨o,e,fun v z=>by rw[d] at z;cases z⟩
 keep:=fun i h h' st k=>st.at fun o e=>k it (by simp) o e
 item:=by
  intro X hP hw hK hc i pins s σ H E I hf st hg
  subst hP hw hK
  obtain ⟨xs,x,hq,hx⟩:=hg
  obtain ⟨its,rv,p,hz⟩:=I.list hq
  obtain ⟨u,hu,ru⟩:=rv.get hx
  obtain ⟨f0,f1,f2,f3,f4,f5⟩:=hf it (by simp)
  refine wpAny_pyNext_list_item st p.isList (x:=u) (by simpa using hu) fun h' st' sb=>?_
  have I1:Inv X pins σ H { s with heap:=h'}:=I.turned (t':=s.toks) (fun b o hb e=>(sb.2 b hb).trans e) f0 f1 f3 f4 f5
  obtain ⟨o,e,c,d⟩:=id st'
  exact ⟨u,rfl,ff (s:={ s with heap:=h'}) e c d (by decide) ⟨x,H,I1,ru,⟨rfl,fun ys hy=>by rw[I.list_inj hy hq];exact hx⟩,st',fun b hb=>(hf b hb).1⟩⟩
 done:=by
  intro X hP hw hK hc i pins s σ H E I hf st hg
  subst hP hw hK
  obtain ⟨xs,hq,hx⟩:=hg
  obtain ⟨its,rv,p,hz⟩:=I.list hq
  obtain ⟨f0,f1,f2,f3,f4,f5⟩:=hf it (by simp)
  have hl:=rv.length
  exact wpAny_pyNext_list_end (I.ok.hd hc) st p.isList (by simp;omega) fun h' eb=>⟨rfl,I.turned (t':=s.toks) (fun b o hb e=>eb b o hb e) f0 f1 f3 f4 f5⟩
 self:=fun _ _ _ _ _ st h=>wpAny_pyIter_listiter st h
theorem eT {P:Program} {w:World} {K:PySem.W.Frag} {tg:Expr} (a it:Addr):Turn P w K tg (Itt K a) [it] it (fun i h=>h.IsTupleIter it a i) where
 mem:=by simp
 obj:=fun i h st b hb=>by
  have e:b=it:=by simpa using hb
  subst e
  obtain ⟨o,e,c,d⟩:=st
  exact ⟨o,e,fun v z=>by rw[d] at z;cases z⟩
 keep:=fun i h h' st k=>st.at fun o e=>k it (by simp) o e
 item:=by
  intro X hP hw hK hc i pins s σ H E I hf st hg
  subst hP hw hK
  obtain ⟨xs,x,hq,hx⟩:=hg
  obtain ⟨its,rv,p,hz⟩:=I.tuple hq
  obtain ⟨u,hu,ru⟩:=rv.get hx
  obtain ⟨f0,f1,f2,f3,f4,f5⟩:=hf it (by simp)
  refine wpAny_pyNext_tuple_item st (show s.heap.IsTuple a its.toArray from p) (x:=u) (by simpa using hu) fun h' st' sb=>?_
  have I1:Inv X pins σ H { s with heap:=h'}:=I.turned (t':=s.toks) (fun b o hb e=>(sb.2 b hb).trans e) f0 f1 f3 f4 f5
  obtain ⟨o,e,c,d⟩:=id st'
  exact ⟨u,rfl,ff (s:={ s with heap:=h'}) e c d (by decide) ⟨x,H,I1,ru,⟨rfl,fun ys hy=>by rw[I.tuple_inj hy hq];exact hx⟩,st',fun b hb=>(hf b hb).1⟩⟩
 done:=by
  intro X hP hw hK hc i pins s σ H E I hf st hg
  subst hP hw hK
  obtain ⟨xs,hq,hx⟩:=hg
  obtain ⟨its,rv,p,hz⟩:=I.tuple hq
  obtain ⟨f0,f1,f2,f3,f4,f5⟩:=hf it (by simp)
  have hl:=rv.length
  exact wpAny_pyNext_tuple_end (I.ok.hd hc) st (show s.heap.IsTuple a its.toArray from p) (by simp;omega) fun h' eb=>⟨rfl,I.turned (t':=s.toks) (fun b o hb e=>eb b o hb e) f0 f1 f3 f4 f5⟩
 self:=fun _ _ _ _ _ st h=>wpAny_pyIter_tupleiter st h
theorem e9 {P:Program} {w:World} {K:PySem.W.Frag} {tg:Expr} (it:Addr) (lo:Int) (n:Nat):Turn P w K tg (Itr lo n) [it] it (fun i h=>IsRangeIter h it (lo+(i:Nat) * 1) ((n:Int) - (i:Nat)) 1) where
 mem:=by simp
 obj:=fun i h st b hb=>by
  have e:b=it:=by simpa using hb
  subst e
  exact ⟨_,st,fun v z=>by
   have z':Data.fields _=Data.cell v:=z
   cases z'⟩
 keep:=fun i h h' st k=>k it (by simp) _ st
 item:=by
  intro X hP hw hK hc i pins s σ H E I hf st hg
  subst hP hw hK
  obtain ⟨f0,f1,f2,f3,f4,f5⟩:=hf it (by simp)
  have W:=Walks.range (prog:=X.prog) (w:=X.w) (I.ok.hd hc) it lo 1 n
  refine W.item i s _ _ hg st fun v h' tk hv st' kk=>?_
  obtain ⟨t,rfl⟩:=hv
  have I1:Inv X pins σ H { s with heap:=h',toks:=tk}:=I.turned (fun b o hb e=>kk b o (by simpa using hb) e) f0 f1 f3 f4 f5
  refine ⟨_,rfl,ff (s:={ s with heap:=h',toks:=tk}) (n:="range_iterator") st' rfl rfl (by decide) ⟨.int (lo+i),H,I1,⟨t,?_⟩,⟨rfl,rfl⟩,st',fun b hb=>(hf b hb).1⟩⟩
  rw[Int.mul_one]
 done:=by
  intro X hP hw hK hc i pins s σ H E I hf st hg
  subst hP hw hK
  obtain ⟨f0,f1,f2,f3,f4,f5⟩:=hf it (by simp)
  exact wpAny_pyNext_range_end (I.ok.hd hc) st (by have:n≤i:=hg;omega) fun h' eb=>⟨rfl,I.turned (t':=s.toks) (fun b o hb e=>eb b o hb e) f0 f1 f3 f4 f5⟩
 self:=fun _ _ _ _ _ st h=>wpAny_pyIter_rangeiter st h
section
variable {X:Cx} {tg:Expr}
def iList (K:PySem.W.Frag) (tl:TE):TI:=fun σ H R=>tl σ H fun x H1=>∃a,x=.ref a∧(∃xs,SqL K H1 a xs)∧R (Itl K a) H1
def iTup (K:PySem.W.Frag) (tl:TE):TI:=fun σ H R=>tl σ H fun x H1=>∃a,x=.ref a∧(∃xs,SqT K H1 a xs)∧R (Itt K a) H1
theorem pi_list {l:Expr} {tl:TE} (hl:PE X l tl):PI X tg l (iList X.K tl):=by
 intro pins s σ H R I h
 refine thn (hl pins s σ H _ I h) fun v s1 ⟨x,H1,I1,r1,q1⟩=>?_
 obtain ⟨a,e,⟨xs,hq⟩,q⟩:=q1
 subst e
 cases r1
 obtain ⟨its,rv,p,hz⟩:=I1.list hq
 refine wpAny_pyIter_list p.isList ?_
 refine ⟨s1.heap.objs.size,[s1.heap.objs.size],_,_,H1,rfl,I1.kept (t':=s1.toks) fun b o e=>Heap.get?_push_of_some _ e,fE a _,⟨_,Heap.get?_push_size _ rfl,rfl,rfl⟩,fun b hb=>?_,q⟩
 have e:b=s1.heap.objs.size:=by simpa using hb
 subst e
 exact I1.fpOk (Nat.le_refl _) (I1.hok.fresh (Nat.le_refl _))
theorem pi_tup {l:Expr} {tl:TE} (hl:PE X l tl):PI X tg l (iTup X.K tl):=by
 intro pins s σ H R I h
 refine thn (hl pins s σ H _ I h) fun v s1 ⟨x,H1,I1,r1,q1⟩=>?_
 obtain ⟨a,e,⟨xs,hq⟩,q⟩:=q1
 subst e
 cases r1
 obtain ⟨its,rv,p,hz⟩:=I1.tuple hq
 refine wpAny_pyIter_tuple (show s1.heap.IsTuple a its.toArray from p) ?_
 refine ⟨s1.heap.objs.size,[s1.heap.objs.size],_,_,H1,rfl,I1.kept (t':=s1.toks) fun b o e=>Heap.get?_push_of_some _ e,eT a _,⟨_,Heap.get?_push_size _ rfl,rfl,rfl⟩,fun b hb=>?_,q⟩
 have e:b=s1.heap.objs.size:=by simpa using hb
 subst e
 exact I1.fpOk (Nat.le_refl _) (I1.hok.fresh (Nat.le_refl _))
theorem fY {pins:List (Addr × Obj)} {σ:St} {H:Hp} {s:Shared} {R:It→Hp→Prop} {E:Value→Shared→Prop} {lo hi:Int} {t u v:Tok} {tk:Nat} (I:Inv X pins σ H s) (h1:-(2 ^ 62)≤lo) (h2:lo<2 ^ 62) (h3:-(2 ^ 62)≤hi) (h4:hi<2 ^ 62)
  (q:R (Itr lo (hi - lo).toNat) H):wpAny (model X.prog X.w) X.A (pyIter (.ref s.heap.objs.size)) (PIE X pins σ tg R) E { s with heap:=s.heap.push { cls:=.type "range",data:=.fields #[.int lo t,.int hi u,.int 1 v]},toks:=tk}:=by
 refine wpAny_pyIter_range (IsRange.new ..) (small_one h1 h2 h3 h4) ?_
 have I1:Inv X pins σ H { s with heap:=s.heap.push { cls:=.type "range",data:=.fields #[.int lo t,.int hi u,.int 1 v]},toks:=tk}:=I.kept fun b o e=>Heap.get?_push_of_some _ e
 refine ⟨(s.heap.push { cls:=.type "range",data:=.fields #[.int lo t,.int hi u,.int 1 v]}).objs.size,[(s.heap.push { cls:=.type "range",data:=.fields #[.int lo t,.int hi u,.int 1 v]}).objs.size],_,_,H,rfl,
  I1.kept (t':=tk) fun b o e=>Heap.get?_push_of_some _ e,e9 _ lo (hi - lo).toNat,?_,fun b hb=>?_,q⟩
 ·have e1:lo+((0:Nat):Int) * 1=lo:=by simp
  have e2:(((hi - lo).toNat:Nat):Int) - ((0:Nat):Int)=Builtin.Range.rangeSize lo hi 1:=by rw[rangeSize_one];split <;> omega
  show IsRangeIter _ _ (lo+((0:Nat):Int) * 1) ((((hi - lo).toNat:Nat):Int) - ((0:Nat):Int)) 1
  rw[e1,e2]
  exact Heap.get?_push_size _ rfl
 ·have e:b=(s.heap.push { cls:=.type "range",data:=.fields #[.int lo t,.int hi u,.int 1 v]}).objs.size:=by simpa using hb
  subst e
  exact I1.fpOk (Nat.le_refl _) (I1.hok.fresh (Nat.le_refl _))
def iRng1 (ta:TA):TI:=fun σ H R=>ta σ H fun vs H1=>∃j:Int,vs=[.int j] ∧ -(2 ^ 62)≤j∧j<2 ^ 62∧R (Itr 0 j.toNat) H1
theorem fL {a:Expr} {ta:TA} {p pos:Pos} (hg:Gl X "range") (hm:X.mg "range"=none) (ha:PA X [a] ta) (hs:starEach [a] X.env=[(false,eval a X.env)]:=by rfl):PI X tg (.Call (.Name "range" p) [a] [] pos) (iRng1 ta):=by
 intro pins s σ H R I h
 refine Call_ (cU I hg hm boot_range (PyProof.Rows.callWith_type1 (thn (ha pos pins s σ H _ I h) fun us s1 ⟨vs,H1,I1,r1,q1⟩=>?_) hs rfl))
 obtain ⟨j,e,q1,q2,q⟩:=q1
 subst e
 cases r1 with
 | cons r rr =>
  cases rr
  obtain ⟨t,rfl⟩:=r
  exact call_range_1 (fY I1 (by omega) (by omega) q1 q2 (by simpa using q))
def tFor (wi:TI) (g:TG) (tb:TS):TS:=fun D σ H=>wi σ H fun J H1=>∃W:Nat→Nat→St→Hp→Prop,(∃m,W 0 m σ H1)∧∀i m σ H,W i m σ H →
 (J.stop i H∧D.nx σ H)∨(J.go i H∧∃N:St→Hp→Prop,(∀σ' H',N σ' H'→∃m',m'<m∧W (i+1) m' σ' H')∧∀x H',J.yld i H x H'→g x σ H' fun σ2 H2=>tb { D with nx:=N,ct:=N,bk:=D.nx} σ2 H2)
def cP (fp:List Addr) (h:Heap):List (Addr × Obj):=fp.filterMap fun b=>(h.get? b).map fun o=>(b,o)
theorem cL {fp:List Addr} {h:Heap} {b:Addr} {o:Obj} (hb:b∈fp) (e:h.get? b=some o):(b,o)∈cP fp h:=List.mem_filterMap.mpr ⟨b,hb,by rw[e];rfl⟩
theorem fG {fp:List Addr} {h:Heap} {p:Addr × Obj} (hp:p∈cP fp h):p.1∈fp∧h.get? p.1=some p.2:=by
 obtain ⟨b,hb,e⟩:=List.mem_filterMap.mp hp
 cases q:h.get? b with
 | none=>rw[q] at e;cases e
 | some o =>
  rw[q] at e
  have e':(b,o)=p:=Option.some.inj e
  subst e'
  exact ⟨hb,q⟩
theorem Inv.pinned {pins:List (Addr × Obj)} {σ:St} {H:Hp} {s:Shared} {fp:List Addr} (I:Inv X pins σ H s) (hf:∀b∈fp,FpOk X pins H b) (ho:∀b∈fp,∃o,s.heap.get? b=some o∧∀v,o.data≠.cell v):Inv X (pins++cP fp s.heap) σ H s :=
 I.pins_of fun p hp=>(List.mem_append.mp hp).elim (fun z=>I.pin p (List.mem_append_right _ z)) fun z=>by
  obtain ⟨hb,e⟩:=fG z
  obtain ⟨f0,f1,f2,_⟩:=hf p.1 hb
  obtain ⟨o,e',d⟩:=ho p.1 hb
  rw[e] at e';cases e'
  exact ⟨e,f0,f1,f2,d⟩
theorem Inv.unpinned {pins pl:List (Addr × Obj)} {σ:St} {H:Hp} {s:Shared} (I:Inv X (pins++pl) σ H s):Inv X pins σ H s:=I.pins_of fun p hp=>I.pin p (List.mem_append_right _ (List.mem_append_left _ hp))
theorem ps_for {iter:Expr} {body:List Stmt} {wi:TI} {g:TG} {tb:TS} {pos:Pos} (hp:PassesOwn (model X.prog X.w) X.A X.env X.xe) (hc:X.calm=true) (hi:PI X tg iter wi) (hg:PG X tg g) (hb:PSs X body tb)
  (hs:∀x,foldedSetIterable iter X.env x=pure x:=by intro _;rfl):PS X (.For tg iter body [] pos) (tFor wi g tb):=by
 intro pins s σ H D I h
 refine wpAny_For (thn (hi pins s σ H _ I h) fun v s1 h1=>thn h1 fun itv s2 h2=>?_) hs
 obtain ⟨it,fp,tn,J,H2,e,I2,T,st2,f2,W,⟨m0,w0⟩,turn⟩:=h2
 subst e
 have stat:∀{H':Hp},(∀b∈fp,H' b=none)→∀b∈fp,FpOk X pins H' b:=fun hn b hb=>⟨hn b hb,(f2 b hb).2⟩
 refine codeAny_forLoop_any (fun n s'=>∃i σ' H',Inv X pins σ' H' s'∧tn i s'.heap∧(∀b∈fp,H' b=none)∧W i n σ' H') ?_ m0 ⟨0,σ,H2,I2,st2,fun b hb=>(f2 b hb).1,w0⟩
 rintro n s3 ⟨i,σ3,H3,I3,st3,fr3,w3⟩
 rcases turn i n σ3 H3 w3 with ⟨stop,qn⟩|⟨go,N,hN,step⟩
 ·refine wpAny_passesOwn hp (thn (T.done X rfl rfl rfl hc i pins s3 σ3 H3 X.xe I3 (stat fr3) st3 stop) fun r s4 ⟨hr,I4⟩=>?_)
  subst hr
  exact wpAny_execs_nil ⟨σ3,H3,I4,qn⟩
 ·refine wpAny_passesOwn hp (thn (T.item X rfl rfl rfl hc i pins s3 σ3 H3 X.xe I3 (stat fr3) st3 go) fun r s4 ⟨u,hr,h4⟩=>?_)
  subst hr
  refine wpAny_passesOwn hp (thn h4 fun _ s5 ⟨x,H5,I5,r5,y5,st5,fr5⟩=>?_)
  have I5':=I5.pinned (stat fr5) (T.obj _ _ st5)
  refine wpAny_passesOwn hp (thn (hg _ s5 σ3 H5 x u _ I5' r5 (step x H5 y5)) fun _ s6 ⟨σ6,H6,I6,q6⟩=>?_)
  refine wpAny_passesOwn hp (thn (hb _ s6 σ6 H6 _ I6 q6) fun f s7 q7=>?_)
  have again:∀{σ7:St} {H7:Hp},Inv X (pins++cP fp s5.heap) σ7 H7 s7→N σ7 H7→∃m,m<n∧∃i σ' H',Inv X pins σ' H' s7∧tn i s7.heap∧(∀b∈fp,H' b=none)∧W i m σ' H':=fun {σ7 H7} I7 n7=>by
   obtain ⟨m',hm,w7⟩:=hN σ7 H7 n7
   refine ⟨m',hm,i+1,σ7,H7,I7.unpinned,T.keep _ _ _ st5 fun b hb o e=>(I7.pin (b,o) (List.mem_append_right _ (List.mem_append_right _ (cL hb e)))).1,fun b hb=>?_,w7⟩
   obtain ⟨o,e,d⟩:=T.obj _ _ st5 b hb
   exact (I7.pin (b,o) (List.mem_append_right _ (List.mem_append_right _ (cL hb e)))).2.1
  cases f with
  | next=>obtain ⟨σ7,H7,I7,n7⟩:=q7;exact again I7 n7
  | cont=>obtain ⟨σ7,H7,I7,n7⟩:=q7;exact again I7 n7
  | brk=>obtain ⟨σ7,H7,I7,q7⟩:=q7;exact ⟨σ7,H7,I7.unpinned,q7⟩
  | ret v=>obtain ⟨x7,σ7,H7,I7,r7,q7⟩:=q7;exact ⟨x7,σ7,H7,I7.unpinned,r7,q7⟩
end
abbrev R2:=V→V→Hp→VK→Prop
def OpR (X:Cx) (f:Value→Value→Sem Value) (r:R2):Prop :=
 ∀(pins:List (Addr × Obj)) (s:Shared) (σ:St) (H:Hp) (x y:V) (v u:Value) (Q:VK),Inv X pins σ H s→RelV x v→RelV y u→r x y H Q →
  wpAny (model X.prog X.w) X.A (f v u) (EP X pins σ Q) X.xe s
def UnR (X:Cx) (f:Value→Sem Value) (r:V→Hp→VK→Prop):Prop :=
 ∀(pins:List (Addr × Obj)) (s:Shared) (σ:St) (H:Hp) (x:V) (v:Value) (Q:VK),Inv X pins σ H s→RelV x v→r x H Q →
  wpAny (model X.prog X.w) X.A (f v) (EP X pins σ Q) X.xe s
def bH (X:Cx) (f:Value) (r:List V→Hp→VK→Prop):Prop :=
 ∀(pins:List (Addr × Obj)) (s:Shared) (σ:St) (H:Hp) (xs:List V) (us:List Value) (Q:VK),Inv X pins σ H s→Vals xs us→r xs H Q →
  wpAny (model X.prog X.w) X.A (call f us) (EP X pins σ Q) X.xe s
def tOp (r:R2) (ta tb:TE):TE:=fun σ H Q=>ta σ H fun x H1=>tb σ H1 fun y H2=>r x y H2 Q
def tUn (r:V→Hp→VK→Prop) (ta:TE):TE:=fun σ H Q=>ta σ H fun x H1=>r x H1 Q
def rI (C:Int→Int→Prop) (g:Int→Int→V):R2:=fun x y H Q=>∃i j,x=.int i∧y=.int j∧C i j∧Q (g i j) H
def rI0 (g:Int→Int→V):R2:=fun x y H Q=>∃i j,x=.int i∧y=.int j∧Q (g i j) H
def rU (g:Int→V):V→Hp→VK→Prop:=fun x H Q=>∃i,x=.int i∧Q (g i) H
section
variable {X:Cx} {a b c:Expr} {ta tb tc:TE} {pos:Pos}
theorem binT (ha:PE X a ta) (hb:PE X b tb) {pins:List (Addr × Obj)} {s:Shared} {σ:St} {H:Hp} {R:V→V→Hp→Prop} (I:Inv X pins σ H s)
  (h:ta σ H fun x H1=>tb σ H1 fun y H2=>R x y H2) {Q:Value→Shared→Prop} {f:Value→Value→Sem Value}
  (hf:∀v u s2 x y H2,Inv X pins σ H2 s2→RelV x v→RelV y u→R x y H2→wpAny (model X.prog X.w) X.A (f v u) Q X.xe s2) :
  wpAny (model X.prog X.w) X.A (eval a X.env) (fun v s₁=>wpAny (model X.prog X.w) X.A (eval b X.env) (fun u s₂=>wpAny (model X.prog X.w) X.A (f v u) Q X.xe s₂) X.xe s₁) X.xe s:=by
 refine thn (ha pins s σ H _ I h) fun v s1 ⟨x,H1,I1,r1,q1⟩=>?_
 refine thn (hb pins s1 σ H1 _ I1 q1) fun u s2 ⟨y,H2,I2,r2,q2⟩=>?_
 exact hf v u s2 x y H2 I2 r1 r2 q2
theorem pe_op {op:Operator} {r:R2} (ho:OpR X (binaryOp op) r) (ha:PE X a ta) (hb:PE X b tb):PE X (.BinOp a op b pos) (tOp r ta tb):=by
 intro pins s σ H Q I h
 exact wpAny_BinOp (binT ha hb I h fun v u s2 x y H2 I2 rx ry q=>ho pins s2 σ H2 x y v u Q I2 rx ry q)
theorem pe_un {op:UnaryOp} {r:V→Hp→VK→Prop} (ho:UnR X (unaryOp op) r) (ha:PE X a ta):PE X (.UnaryOp op a pos) (tUn r ta):=by
 intro pins s σ H Q I h
 exact UnaryOp_ (thn (ha pins s σ H _ I h) fun v s1 ⟨x,H1,I1,r1,q1⟩=>ho pins s1 σ H1 x v Q I1 r1 q1)
theorem opI {f:Value→Value→Sem Value} {C:Int→Int→Prop} {g:Int→Int→Int}
  (rule:∀(i j:Int) (t u:Tok) (s:Shared) (Q:Value→Shared→Prop) (E:Value→Shared→Prop),C i j→Q (.int (g i j) s.toks) { s with toks:=s.toks+1}→wpAny (model X.prog X.w) X.A (f (.int i t) (.int j u)) Q E s) :
  OpR X f (rI C fun i j=>.int (g i j)):=by
 intro pins s σ H x y v u Q I rx ry h
 obtain ⟨i,j,rfl,rfl,hc,q⟩:=h
 obtain ⟨t,rfl⟩:=rx
 obtain ⟨t',rfl⟩:=ry
 exact rule i j t t' s _ _ hc ⟨.int (g i j),H,I.tok _,⟨_,rfl⟩,q⟩
theorem opI0 {f:Value→Value→Sem Value} {g:Int→Int→Int}
  (rule:∀(i j:Int) (t u:Tok) (s:Shared) (Q:Value→Shared→Prop) (E:Value→Shared→Prop),Q (.int (g i j) s.toks) { s with toks:=s.toks+1}→wpAny (model X.prog X.w) X.A (f (.int i t) (.int j u)) Q E s) :
  OpR X f (rI0 fun i j=>.int (g i j)):=by
 intro pins s σ H x y v u Q I rx ry h
 obtain ⟨i,j,rfl,rfl,q⟩:=h
 obtain ⟨t,rfl⟩:=rx
 obtain ⟨t',rfl⟩:=ry
 exact rule i j t t' s _ _ ⟨.int (g i j),H,I.tok _,⟨_,rfl⟩,q⟩
theorem opB0 {f:Value→Value→Sem Value} {g:Int→Int→Bool}
  (rule:∀(i j:Int) (t u:Tok) (s:Shared) (Q:Value→Shared→Prop) (E:Value→Shared→Prop),Q (.bool (g i j)) s→wpAny (model X.prog X.w) X.A (f (.int i t) (.int j u)) Q E s) :
  OpR X f (rI0 fun i j=>.bl (g i j)):=by
 intro pins s σ H x y v u Q I rx ry h
 obtain ⟨i,j,rfl,rfl,q⟩:=h
 obtain ⟨t,rfl⟩:=rx
 obtain ⟨t',rfl⟩:=ry
 exact rule i j t t' s _ _ ⟨.bl (g i j),H,I,rfl,q⟩
def CPow (i j:Int):Prop:=0≤j∧j≤1000000∧i.natAbs<2 ^ 64
theorem op_add:OpR X (binaryOp .Add) (rI0 fun i j=>.int (i+j)):=opI0 fun _ _ _ _ _ _ _ q=>add_int q
theorem op_sub:OpR X (binaryOp .Sub) (rI0 fun i j=>.int (i - j)):=opI0 fun _ _ _ _ _ _ _ q=>sub_int q
theorem op_pow:OpR X (binaryOp .Pow) (rI CPow fun i j=>.int (i ^ j.toNat)):=opI fun _ _ _ _ _ _ _ hc q=>pow_int_small hc.1 hc.2.1 hc.2.2 q
theorem unI {f:Value→Sem Value} {g:Int→Int}
  (rule:∀(i:Int) (t:Tok) (s:Shared) (Q:Value→Shared→Prop) (E:Value→Shared→Prop),Q (.int (g i) s.toks) { s with toks:=s.toks+1}→wpAny (model X.prog X.w) X.A (f (.int i t)) Q E s) :
  UnR X f (rU fun i=>.int (g i)):=by
 intro pins s σ H x v Q I rx h
 obtain ⟨i,rfl,q⟩:=h
 obtain ⟨t,rfl⟩:=rx
 exact rule i t s _ _ ⟨.int (g i),H,I.tok _,⟨_,rfl⟩,q⟩
theorem un_neg:UnR X (unaryOp .USub) (rU fun i=>.int (-i)):=unI fun _ _ _ _ _ q=>neg_int q
end
section
variable {X:Cx} {a b c:Expr} {ta tb tc:TE} {pos:Pos}
theorem fU {pins:List (Addr × Obj)} {σ:St} {H:Hp} {s:Shared} {Q:VK} {k k':Bool} (I:Inv X pins σ H s) (q:Q (.bl k) H) (e:k=k'):EP X pins σ Q (.bool k') s:=by
 subst e
 exact ⟨.bl k,H,I,rfl,q⟩
theorem op_lt:OpR X (compareOp .Lt) (rI0 fun i j=>.bl (decide (i<j))):=opB0 fun _ _ _ _ _ _ _ q=>lt_int q
theorem op_gt:OpR X (compareOp .Gt) (rI0 fun i j=>.bl (decide (j<i))):=opB0 fun _ _ _ _ _ _ _ q=>gt_int q
theorem op_ge:OpR X (compareOp .GtE) (rI0 fun i j=>.bl (decide (j≤i))):=opB0 fun _ _ _ _ _ _ _ q=>ge_int q
theorem op_isN:OpR X (compareOp .Is) (fun x y H Q=>y=.non∧Q (.bl (decide (x=.non))) H):=by
 intro pins s σ H x y v u Q I rx ry h
 obtain ⟨rfl,q⟩:=h
 cases ry
 refine is_none_gen (fU I q ?_)
 cases x <;> first
  | (cases rx;rfl)
  | (obtain ⟨t,rfl⟩:=rx;rfl)
theorem op_notN:OpR X (compareOp .IsNot) (fun x y H Q=>y=.non∧Q (.bl (!decide (x=.non))) H):=by
 intro pins s σ H x y v u Q I rx ry h
 obtain ⟨rfl,q⟩:=h
 cases ry
 refine isnot_none_gen (fU I q ?_)
 cases x <;> first
  | (cases rx;rfl)
  | (obtain ⟨t,rfl⟩:=rx;rfl)
theorem nomark (b:Expr) {op:CmpOp} (h:op≠.In:=by decide) (h2:op≠.NotIn:=by decide):behindInMarks op b=false:=by
 have e1:(op == CmpOp.In)=false:=by cases op <;> first | rfl | exact absurd rfl h
 have e2:(op == CmpOp.NotIn)=false:=by cases op <;> first | rfl | exact absurd rfl h2
 cases b <;> simp[behindInMarks,e1,e2]
theorem pe_cmpR {op:CmpOp} {r:R2} (ho:OpR X (compareOp op) r) (ha:PE X a ta) (hb:PE X b tb) (hm:behindInMarks op b=false):PE X (.Compare a [op] [b] pos) (tOp r ta tb):=by
 intro pins s σ H Q I h
 exact wpAny_Compare1 (binT ha hb I h fun v u s2 x y H2 I2 rx ry q=>ho pins s2 σ H2 x y v u Q I2 rx ry q) hm
def tTest (t:TE):TT:=fun σ H Q=>t σ H fun x H'=>∃k,x=.bl k∧Q k H'
theorem pt_cmpR {op:CmpOp} {r:R2} (ho:OpR X (compareOp op) r) (ha:PE X a ta) (hb:PE X b tb) (hm:behindInMarks op b=false):PT X (.Compare a [op] [b] pos) (tTest (tOp r ta tb)):=by
 intro pins s σ H Q I h
 refine wpAny_isTrue_Compare1 (thn (ha pins s σ H _ I h) fun v s1 ⟨x,H1,I1,r1,q1⟩=>thn (hb pins s1 σ H1 _ I1 q1) fun u s2 ⟨y,H2,I2,r2,q2⟩ =>
  thn (ho pins s2 σ H2 x y v u _ I2 r1 r2 q2) fun c s3 ⟨z,H3,I3,r3,k,e,q3⟩=>?_) hm
 subst e
 cases r3
 exact wpAny_truthy_bool ⟨H3,I3,q3⟩
theorem cg:(sizeLine:Nat)<2 ^ 63:=by rw[sizeLine_eq];decide
theorem fi:OpR X (binaryOp .Add) (fun x y H Q=>∃i j,x=.str i∧y=.str j∧i.length+j.length≤sizeLine∧Q (.str (i++j)) H):=by
 intro pins s σ H x y v u Q I rx ry h
 obtain ⟨i,j,rfl,rfl,hz,q⟩:=h
 obtain ⟨t,rfl⟩:=rx
 obtain ⟨t',rfl⟩:=ry
 exact add_str (fun t' tk=>⟨.str (i++j),H,I.tok _,⟨_,rfl⟩,q⟩) hz
theorem fh {x:V} {us:List Value} (r:Vals [x] us):∃u,us=[u]∧RelV x u:=by
 cases r with
 | cons r1 r2=>cases r2;exact ⟨_,rfl,r1⟩
theorem vals2 {x y:V} {us:List Value} (r:Vals [x,y] us):∃u w',us=[u,w']∧RelV x u∧RelV y w':=by
 cases r with
 | cons r1 r2 =>
  cases r2 with
  | cons r3 r4=>cases r4;exact ⟨_,_,rfl,r1,r3⟩
theorem gj:bH X (.builtin "abs") (fun xs H Q=>∃i,xs=[.int i]∧Q (.int (if i<0 then -i else i)) H):=by
 intro pins s σ H xs us Q I r h
 obtain ⟨i,rfl,q⟩:=h
 obtain ⟨u,rfl,t,rfl⟩:=fh r
 exact call_abs_int fun u tk=>⟨.int (if i<0 then -i else i),H,I.tok _,⟨_,rfl⟩,q⟩
theorem fQ (hc:X.calm=true):bH X (.builtin "min") (fun xs H Q=>∃i j,xs=[.int i,.int j]∧Q (.int (if j<i then j else i)) H):=by
 intro pins s σ H xs us Q I r h
 obtain ⟨i,j,rfl,q⟩:=h
 obtain ⟨u,w',rfl,⟨t,rfl⟩,⟨t',rfl⟩⟩:=vals2 r
 refine min_two_ints (I.ok.hd hc) fun h' tk k=>⟨_,H,I.kept k,?_,q⟩
 by_cases hj:j<i
 ·rw[if_pos hj,if_pos hj];exact ⟨_,rfl⟩
 ·rw[if_neg hj,if_neg hj];exact ⟨_,rfl⟩
theorem dZ:bH X (.type "str") (fun xs H Q=>∃i,xs=[.int i]∧i.natAbs.log2<1920∧Q (.str (toString i)) H):=by
 intro pins s σ H xs us Q I r h
 obtain ⟨i,rfl,hz,q⟩:=h
 obtain ⟨u,rfl,t,rfl⟩:=fh r
 exact PySem.P.str_of_int hz ⟨.str _,H,I.tok _,⟨_,rfl⟩,q⟩
def LenV (K:PySem.W.Frag) (x:V) (H:Hp) (n:Nat):Prop :=
 match x with
 | .str y=>y.length≤sizeLine∧n=y.length
 | .byt y=>y.size≤sizeLine∧n=y.size
 | .ref p=>(∃xs,SqL K H p xs∧n=xs.length)∨∃xs,SqT K H p xs∧n=xs.length
 | _=>False
theorem b9:bH X (.builtin "len") (fun xs H Q=>∃x n,xs=[x]∧LenV X.K x H n∧Q (.int n) H):=by
 intro pins s σ H xs us Q I r h
 obtain ⟨x,n,rfl,e,q⟩:=h
 obtain ⟨u,rfl,rx⟩:=fh r
 have hl:=cg
 have hs:sizeLine=16777216:=sizeLine_eq
 cases x with
 | str y =>
  obtain ⟨t,rfl⟩:=rx
  obtain ⟨hy,e'⟩:y.length≤sizeLine∧n=y.length:=e
  subst e'
  exact len_str (by omega) ⟨.int _,H,I.tok _,⟨_,rfl⟩,q⟩
 | byt y =>
  obtain ⟨t,rfl⟩:=rx
  obtain ⟨hy,e'⟩:y.size≤sizeLine∧n=y.size:=e
  subst e'
  exact PySem.W.len_bytes (by omega) ⟨.int _,H,I.tok _,⟨_,rfl⟩,q⟩
 | ref p =>
  cases rx
  have e':(∃xs,SqL X.K H p xs∧n=xs.length)∨∃xs,SqT X.K H p xs∧n=xs.length:=e
  rcases e' with ⟨xs,hx,e'⟩|⟨xs,hx,e'⟩
  ·subst e'
   obtain ⟨its,r',pl,hz⟩:=I.list hx
   have hlen:=r'.length
   exact Calls.call_len_list pl.isList (by simp only[List.size_toArray];omega) ⟨.int xs.length,H,I.tok _,⟨_,by simp only[List.size_toArray];rw[hlen]⟩,q⟩
  ·subst e'
   obtain ⟨its,r',pl,hz⟩:=I.tuple hx
   have hlen:=r'.length
   exact len_tuple pl (by simp only[List.size_toArray];omega) ⟨.int xs.length,H,I.tok _,⟨_,by simp only[List.size_toArray];rw[hlen]⟩,q⟩
 | _=>exact (show False from e).elim
end
section
variable {prog:Program} {w:World} {A:Around} {E:Value→Shared→Prop} {s:Shared} {K:PySem.W.Frag} {x dx C f:Addr} {mA:Str→Option Value} {name:Str} {v:Value}
end
section
variable {P:Program} {w:World} {H H':Hp} {h h':Heap} {a C dx:Addr} {fs fs':List (Str × V)}
end
section
variable {X:Cx} {pins:List (Addr × Obj)} {σ:St} {H:Hp} {s:Shared} {a C dx:Addr} {fs:List (Str × V)} {f:Str} {v:V} {A:Around} {E:Value→Shared→Prop}
end
section
variable {X:Cx} {o e value:Expr} {f:Str} {pos pos' tpos:Pos} {ta tv:TE}
end
section
variable {X:Cx} {pins:List (Addr × Obj)} {σ:St} {H:Hp} {s:Shared} {A:Around} {E:Value→Shared→Prop} {Q:Value→Shared→Prop} {c:Value} {b:Bool}
end
structure Room (k:Nat) (A:Around):Prop where
 hd:A.handled=none
 dp:A.depth+3 * k+5<recursionLimit
 un:A.units+16 * k+200<cLine
 gd:A.guards=some []
theorem Room.mono {j k:Nat} {A:Around} (r:Room k A) (h:j≤k):Room j A:=⟨r.hd,by have:=r.dp;omega,by have:=r.un;omega,r.gd⟩
theorem Room.deeper {k:Nat} {A:Around} (r:Room (k+1) A) (env:Env):Room k (A.deeper env) :=
 ⟨r.hd,by have:=r.dp;show A.depth+1+3 * k+5<_;omega,by have:=r.un;show A.units+3+16 * k+200<_;omega,r.gd⟩
theorem Room.depth {k:Nat} {A:Around} (r:Room k A):A.depth<recursionLimit:=by have:=r.dp;omega
theorem Room.units {k:Nat} {A:Around} (r:Room k A):A.units+64<cLine:=by have:=r.un;omega
def tNil:TA:=fun _ H Q=>Q [] H
def tCons (ta:TE) (tr:TA):TA:=fun σ H Q=>ta σ H fun x H1=>tr σ H1 fun xs H2=>Q (x::xs) H2
section
variable {X:Cx} {e:Expr} {es:List Expr} {te:TE} {t:TA} {pos:Pos}
theorem fq:PA X [] tNil:=fun _ _ _ _ H Q I h=>Calls.spliced_nil ⟨[],H,I,.nil,h⟩
theorem de (ha:PE X e te) (hr:PA X es t) (hs:starEach (e::es) X.env=(false,eval e X.env)::starEach es X.env:=by rfl):PA X (e::es) (tCons te t):=by
 intro pos pins s σ H Q I h
 rw[hs]
 show wpAny _ _ (spliced ((false,eval e X.env)::backTo pos (starEach es X.env))) _ _ s
 refine Calls.spliced_cons (thn (ha pins s σ H _ I h) fun u s1 ⟨x,H1,I1,r1,q1⟩=>?_)
 exact thn (hr pos pins s1 σ H1 _ I1 q1) fun us s2 ⟨xs,H2,I2,r2,q2⟩=>⟨x::xs,H2,I2,.cons r1 r2,q2⟩
def tTup (t:TA):TE:=fun σ H Q=>t σ H fun xs H1=>xs.length≤sizeLine∧∀p,H1 p=none→Q (.ref p) (upd H1 p (.tup xs))
def tLst (t:TA):TE:=fun σ H Q=>t σ H fun xs H1=>xs.length≤sizeLine∧∀p,H1 p=none→Q (.ref p) (upd H1 p (.lst xs))
theorem pe_tup {x1} (h:PA X es t):PE X (.Tuple es x1 pos) (tTup t):=by
 intro pins s σ H Q I hq
 refine wpAny_Tuple_spliced (thn (h pos pins s σ H _ I hq) fun us s1 ⟨xs,H1,I1,r,z,q⟩=>⟨by rw[←r.length];exact z,?_⟩)
 have hf:H1 s1.heap.objs.size=none:=I1.hok.fresh (Nat.le_refl _)
 refine ⟨.ref s1.heap.objs.size,upd H1 s1.heap.objs.size (.tup xs),I1.laid (t':=s1.toks) (fun b u e=>Heap.get?_push_of_some _ e) (Nat.le_refl _) ?_,rfl,q _ hf⟩
 exact ⟨z,us,r,⟨_,Heap.get?_push_size _ rfl,rfl,_,rfl⟩⟩
theorem pe_lst (h:PA X es t):PE X (.List es pos) (tLst t):=by
 intro pins s σ H Q I hq
 refine wpAny_List_spliced (thn (h pos pins s σ H _ I hq) fun us s1 ⟨xs,H1,I1,r,z,q⟩=>⟨by rw[←r.length];exact z,?_⟩)
 have hf:H1 s1.heap.objs.size=none:=I1.hok.fresh (Nat.le_refl _)
 refine ⟨.ref s1.heap.objs.size,upd H1 s1.heap.objs.size (.lst xs),I1.laid (t':=s1.toks) (fun b u e=>Heap.get?_push_of_some _ e) (Nat.le_refl _) ?_,rfl,q _ hf⟩
 exact ⟨z,us,0,r,Heap.get?_push_size _ rfl⟩
end
abbrev Sp:=List V→Hp→VK→XK→Prop
abbrev CXT:=List Env→Hp→Shared→XK→Value→Shared→Prop
structure Env0 (P:Program) (w:World) (K:PySem.W.Frag) (mg:Str→Option Value) (base:Heap) (A:Around) (outer:List Env) (s:Shared) (H:Hp):Prop where
 frames:A.frames=some outer
 mod:Mod K mg base
 bs:∀b o,base.get? b=some o→s.heap.get? b=some o∧H b=none
 bsz:base.objs.size≤s.heap.objs.size
 funs:s.heap.FunFrames base outer
 frf:∀b∈frs outer,H b=none
 hok:HOk P w H s.heap
 bare:AllBare s.gens
def CE (outer:List Env) (P:Program) (w:World) (H:Hp) (s:Shared) (Q:VK) (u:Value) (s':Shared):Prop :=
 ∃v H',s'.os=s.os∧AllBare s'.gens∧Un (frs outer) [] H H' s.heap s'.heap∧HOk P w H' s'.heap∧RelV v u∧Q v H'
def CR (CX:CXT) (outer:List Env) (P:Program) (w:World) (H:Hp) (s:Shared) (Q:VK) (E:XK) (r:Result) (s':Shared):Prop :=
 match r with
 | .ok (.ret u)=>CE outer P w H s Q u s'
 | .ok _=>False
 | .error e=>CX outer H s E e s'
structure FnOk (P:Program) (w:World) (K:PySem.W.Frag) (mg:Str→Option Value) (base:Heap) (CX:CXT) (k:Nat) (f:Addr) (fd:FuncData) (ps:List Str) (sp:Sp):Prop where
 len:∀vs H Q E,sp vs H Q E→vs.length=ps.length
 run:∀(A:Around) (outer:List Env) (s:Shared) (H:Hp) (args:Args) (us:List Value) (vs:List V) (Q:VK) (E:XK),Room k A→Env0 P w K mg base A outer s H→BindsTo s fd args (ps.zip us)→Vals vs us→sp vs H Q E →
  codeAny (model P w) A (.call (.ref f) args) (CR CX outer P w H s Q E) s
theorem FnOk.mono {P:Program} {w:World} {K:PySem.W.Frag} {mg:Str→Option Value} {base:Heap} {CX:CXT} {j k:Nat} {f:Addr} {fd:FuncData} {ps:List Str} {sp:Sp} (F:FnOk P w K mg base CX j f fd ps sp) (h:j≤k) :
  FnOk P w K mg base CX k f fd ps sp:=⟨F.len,fun A outer s H args us vs Q E hr=>F.run A outer s H args us vs Q E (hr.mono h)⟩
theorem FnOk.imp {P:Program} {w:World} {K:PySem.W.Frag} {mg:Str→Option Value} {base:Heap} {CX:CXT} {k:Nat} {f:Addr} {fd:FuncData} {ps:List Str} {sp sp':Sp} (F:FnOk P w K mg base CX k f fd ps sp)
  (h:∀vs H Q E,sp' vs H Q E→sp vs H Q E):FnOk P w K mg base CX k f fd ps sp' :=
 ⟨fun vs H Q E q=>F.len vs H Q E (h _ _ _ _ q),fun A outer s H args us vs Q E hr he hb hv hs=>F.run A outer s H args us vs Q E hr he hb hv (h _ _ _ _ hs)⟩
section
variable {X:Cx} {pins:List (Addr × Obj)} {σ:St} {H:Hp} {s s':Shared}
theorem Inv.env0 (I:Inv X pins σ H s):Env0 X.prog X.w X.K X.mg X.base X.A X.stack s H :=
 ⟨I.ok.frames,I.ok.mod,I.bs,Nat.le_trans I.ok.bsz I.sz,I.stack,I.stkFree,I.hok,I.bare⟩
theorem Inv.after {Q:VK} {u:Value} (I:Inv X pins σ H s) (h:CE X.stack X.prog X.w H s Q u s'):EP X pins σ Q u s':=by
 obtain ⟨v,H',os,bare,un,hok,r,q⟩:=h
 obtain ⟨hh,g,d,t,os'⟩:=s'
 obtain rfl:os'=s.os:=os
 exact ⟨v,H',I.call (h':=hh) (g':=g) (d':=d) (t':=t) (ch:=[]) un hok bare (fun b z=>absurd z (by simp)),r,q⟩
end
def cN (K:PySem.W.Frag) (fd:FuncData) (ps:List Str) (ds:List Value):Prop :=
 ∀(s:Shared) (us:List Value),K.In s.heap→(us++ds).length=ps.length→BindsTo s fd ⟨us,[]⟩ (ps.zip (us++ds))
theorem cN.all {K:PySem.W.Frag} {fd:FuncData} {ps:List Str} (h:∀us:List Value,us.length=ps.length→bindArgs fd ⟨us,[]⟩=pure (ps.zip us)):cN K fd ps []:=fun s us _ hl=>by
 rw[List.append_nil] at hl ⊢
 exact .of_eq (h us hl)
section
variable {X:Cx} {CX:CXT} {k:Nat} {f C:Addr} {fd:FuncData} {ps:List Str} {sp:Sp} {dvs:List V} {ds:List Value} {E:XK} {x m:Str} {p pos apos:Pos} {e o:Expr} {es:List Expr} {ta:TE} {t:TA}
end
section
variable {X:Cx} {CX:CXT} {k:Nat} {f C:Addr} {fd:FuncData} {ps ks:List Str} {sp:Sp} {E:XK} {x m:Str} {p pos apos kpos:Pos} {e o:Expr} {es:List Expr} {kws:List Keyword} {te ta:TE} {t tk:TA} {nm:Option Str}
variable {g:List Value→List Value→List Value} {gV:List V→List V→List V}
end
structure FnScope (N P:List Str) (sc:Scope):Prop where
 kind:sc.kind=.function
 co:sc.isCoroutine=false
 gen:sc.isGenerator=false
 nd:N.Nodup
 pre:N.take P.length=P
 par:∀x∈P,sc.names.lookup x=some .local∨sc.names.lookup x=some .cell
 nofree:∀y∈sc.names,y.2≠.free
theorem dl {kindOf:Str→Option NameKind} {x:Str}:∀{binds:List (Str × Value)} {m:Str→Option Value},(∀v,(x,v)∉binds)→bindL kindOf binds m x=m x
 | [],_,_=>rfl
 | (n,v)::r,m,h=>by
  unfold bindL
  rw[dl fun w hw=>h w (List.mem_cons_of_mem _ hw)]
  split
  ·have:x≠n:=by rintro rfl;exact h v List.mem_cons_self
   simp[this]
  ·rfl
theorem dm {kindOf:Str→Option NameKind} {x:Str}:∀{binds:List (Str × Value)} {m:Str→Option Value},(∀v,(x,v)∉binds)→bindC kindOf binds m x=m x
 | [],_,_=>rfl
 | (n,v)::r,m,h=>by
  unfold bindC
  rw[dm fun w hw=>h w (List.mem_cons_of_mem _ hw)]
  split
  ·rfl
  ·have:x≠n:=by rintro rfl;exact h v List.mem_cons_self
   simp[this]
theorem dq {kindOf:Str→Option NameKind} {x:Str} {v:Value}:∀{P:List Str} {vs:List Value} {i:Nat} {m:Str→Option Value},P.Nodup→P[i]?=some x→vs[i]?=some v→kindOf x=some .local →
  bindL kindOf (P.zip vs) m x=some v
 | [],_,_,_,_,h,_,_=>by simp at h
 | _::_,[],_,_,_,_,h,_=>by simp at h
 | p::P,w::vs,0,m,nd,h1,h2,hk=>by
  simp at h1 h2;subst h1;subst h2
  show bindL kindOf ((p,w)::P.zip vs) m p=_
  unfold bindL
  rw[dl fun v hv=>(List.nodup_cons.mp nd).1 (List.of_mem_zip hv).1,if_pos hk]
  simp
 | p::P,w::vs,i+1,m,nd,h1,h2,hk=>by
  show bindL kindOf ((p,w)::P.zip vs) m x=_
  unfold bindL
  exact dq (i:=i) (List.nodup_cons.mp nd).2 (by simpa using h1) (by simpa using h2) hk
theorem di {kindOf:Str→Option NameKind} {x:Str} {v:Value}:∀{P:List Str} {vs:List Value} {i:Nat} {m:Str→Option Value},P.Nodup→P[i]?=some x→vs[i]?=some v→kindOf x≠some .local →
  bindC kindOf (P.zip vs) m x=some v
 | [],_,_,_,_,h,_,_=>by simp at h
 | _::_,[],_,_,_,_,h,_=>by simp at h
 | p::P,w::vs,0,m,nd,h1,h2,hk=>by
  simp at h1 h2;subst h1;subst h2
  show bindC kindOf ((p,w)::P.zip vs) m p=_
  unfold bindC
  rw[dm fun v hv=>(List.nodup_cons.mp nd).1 (List.of_mem_zip hv).1,if_neg hk]
  simp
 | p::P,w::vs,i+1,m,nd,h1,h2,hk=>by
  show bindC kindOf ((p,w)::P.zip vs) m x=_
  unfold bindC
  exact di (i:=i) (List.nodup_cons.mp nd).2 (by simpa using h1) (by simpa using h2) hk
def start (N:List Str) (vs:List V):St:=vs.map some++List.replicate (N.length - vs.length) none
def cxOf (CX:CXT) (P:Program) (w:World) (K:PySem.W.Frag) (mg:Str→Option Value) (base:Heap) (N:List Str) (qual:Str) (scope:Scope) (f:Addr) (cd:Value) (A:Around) (outer:List Env) (s:Shared) (H:Hp) (E:XK):Cx where
 prog:=P
 w:=w
 K:=K
 mg:=mg
 base:=base
 A:=A.deeper (envOfC qual scope s.heap.objs.size f cd)
 N:=N
 s₀:=s
 H₀:=H
 env:=envOfC qual scope s.heap.objs.size f cd
 outer:=outer
 stack:=envOfC qual scope s.heap.objs.size f cd::outer
 ex:=[]
 calm:=true
 fn:=fun _=>true
 pn:=[]
 xe:=fun e s'=>wpAny (model P w) (A.deeper (envOfC qual scope s.heap.objs.size f cd)) (leaving (envOfC qual scope s.heap.objs.size f cd) e) (fun _ s''=>CX outer H s E e s'') (fun e' s''=>CX outer H s E e' s'') s'
theorem dI {sc:Scope} {n:Nat} {x:Str} (h:sc.names.lookup x=some .cell):∃c,(cellsFrom n sc.names []).lookup x=some c:=by
 have q:=PySem.W.cellsFrom_some sc.names n [] (.inl h)
 exact Option.isSome_iff_exists.mp q
theorem fO {CX:CXT} {P:Program} {w:World} {K:PySem.W.Frag} {mg:Str→Option Value} {base:Heap} {N ps:List Str} {qual:Str} {scope:Scope} {f:Addr} {cd:Value} {A:Around} {outer:List Env} {s s1:Shared} {H:Hp} {E:XK} {us:List Value} {vs:List V}
  (S:FnScope N ps scope) (hd:A.handled=none) (e0:Env0 P w K mg base A outer s H) (hl:vs.length=ps.length) (r:Vals vs us)
  (x:InCallC s s.heap.objs.size (bindL (envOfC qual scope s.heap.objs.size f cd).kindOf (ps.zip us) fun _=>none) (cellsFrom (s.heap.objs.size+1) scope.names []) (bindC (envOfC qual scope s.heap.objs.size f cd).kindOf (ps.zip us) fun _=>none) s1) :
  Inv (cxOf CX P w K mg base N qual scope f cd A outer s H E) [] (start N vs) H s1:=by
 have hpl:ps.length≤N.length:=by have:=congrArg List.length S.pre;rw[List.length_take] at this;omega
 obtain ⟨h1,tk,rfl,hk⟩:=x.done
 have noA:∀b:Addr,b∉(cxOf CX P w K mg base N qual scope f cd A outer s H E).ex:=fun b z=>absurd (show b∈([]:List Addr) from z) (by simp)
 refine ⟨⟨e0.mod,S.kind,rfl,rfl,Nat.le_refl _,fun y z c h1 h2=>?_,fun y hy=>?_,fun y c _ h=>?_,fun _=>hd,Around.frames_deeper e0.frames,.inr ⟨rfl,rfl⟩,fun b z=>absurd z (noA b),e0.bs,e0.bsz,fun b _ _=>noA b,fun b z=>absurd z (noA b),e0.funs,e0.frf⟩,
  rfl,e0.bare,Un.kept hk,⟨_,x.toInCall.ns,fun i y v h1 h2 h3=>?_⟩,fun y c h=>⟨_,x.cell y c h⟩,e0.hok.fresh (Nat.le_refl _),fun y c h=>?_,fun p hp=>absurd (show p∈([]:List (Addr × Obj)) from hp) (by simp),e0.hok.kept hk,?_⟩
 ·exact name_of_addr x.apart (PySem.mem_of_lookup h1) (PySem.mem_of_lookup h2)
 ·have hy:scope.names.lookup y=some .cell∨scope.names.lookup y=some .free:=hy
  rcases hy with hy|hy
  ·exact dI hy
  ·exact absurd rfl (S.nofree _ (PySem.mem_of_lookup hy))
 ·exact Nat.le_of_lt (x.above y c (PySem.mem_of_lookup h))
 ·have hi:i<vs.length:=by
   unfold start at h2
   by_cases hi:i<vs.length
   ·exact hi
   ·rw[List.getElem?_append_right (by simpa using hi)] at h2
    rw[List.getElem?_replicate] at h2
    split at h2 <;> cases h2
  have ha:vs[i]?=some v:=by
   unfold start at h2
   rw[List.getElem?_append_left (by simpa using hi),List.getElem?_map] at h2
   cases e:vs[i]? with
   | none=>rw[e] at h2;cases h2
   | some a=>rw[e] at h2;cases h2;rfl
  obtain ⟨u,hu,rv⟩:=r.get ha
  have hp:ps[i]?=some y:=by
   rw[←S.pre,List.getElem?_take_of_lt (by omega)];exact h1
  have ndP:ps.Nodup:=by rw[←S.pre];exact S.nd.sublist (List.take_sublist _ _)
  refine ⟨u,rv,?_⟩
  rcases S.par y (List.mem_of_getElem? hp) with k|k
  ·exact .inl ⟨k,dq ndP hp hu k⟩
  ·obtain ⟨c,e⟩:=dI (n:=s.heap.objs.size+1) k
   refine .inr ⟨.inl k,c,e,?_⟩
   have q:=x.cell y c e
   rw[di ndP hp hu (by show scope.names.lookup y≠_;rw[k];decide)] at q
   exact q
 ·exact e0.hok.fresh (Nat.le_of_lt (x.above y c (PySem.mem_of_lookup h)))
 ·unfold start
  show _=N.length
  rw[List.length_append,List.length_map,List.length_replicate]
  omega
theorem fn_of {CX:CXT} {P:Program} {w:World} {K:PySem.W.Frag} {mg:Str→Option Value} {base:Heap} {k:Nat} {f:Addr} {name qual:Str} {params:Arguments} {body:List Stmt} {scope:Scope} {dV kV doc pm cdv ct oc:Value} {an od:Option Addr}
  {osl:Array (Option Value)} {N ps:List Str} {sp:Sp} (lk:K.lookup f=some ⟨oc,od,.func (PySem.W.fnOf name qual params body scope dV kV doc pm an cdv ct),osl⟩) (hcd:PySem.W.codeIn K cdv qual=true) (S:FnScope N ps scope)
  (len:∀vs H Q E,sp vs H Q E→vs.length=ps.length)
  (hbody:∀(A:Around) (outer:List Env) (s:Shared) (H:Hp) (vs:List V) (Q:VK) (E:XK),Room k (A.deeper (envOfC qual scope s.heap.objs.size f cdv))→sp vs H Q E →
   ∃t,PSs (cxOf CX P w K mg base N qual scope f cdv A outer s H E) body t∧t { nx:=fun _ H'=>Q .non H',rt:=Q} (start N vs) H) :
  FnOk P w K mg base CX (k+1) f (PySem.W.fnOf name qual params body scope dV kV doc pm an cdv ct) ps sp:=by
 refine ⟨len,fun A outer s H args us vs Q E hr e0 hb r hsp=>?_⟩
 have hl:=len _ _ _ _ hsp
 have KX:K.In s.heap:=e0.mod.kin.keeps fun b o e=>(e0.bs b o e).1
 have lim:s.heap.NoLimit:=e0.mod.nolimit.keeps fun b o e=>(e0.bs b o e).1
 have hkind:∀y∈ps.zip us,scope.names.lookup y.1=some .local∨(scope.names.lookup y.1=some .cell∧((cellsFrom (s.heap.objs.size+1) scope.names []).lookup y.1).isSome=true):=fun ⟨n,v⟩ hy=>by
  rcases S.par n (List.of_mem_zip hy).1 with q|q
  ·exact .inl q
  ·exact .inr ⟨q,PySem.W.cellsFrom_some _ _ _ (.inl q)⟩
 refine codeAny_call_function hr.depth (KX _ _ lk) rfl S.co S.gen rfl (PySem.W.codeRec_of KX hcd) (hb _ _ _ _ ?_)
 refine wpAny_newFunctionEnv_cells S.kind hkind fun env he s1 x=>?_
 subst he
 refine ⟨lim.keeps x.toInCall.keep,codeAny_func ?_⟩
 obtain ⟨t,ht,hq⟩:=hbody A outer s H vs Q E (hr.deeper _) hsp
 have I:Inv (cxOf CX P w K mg base N qual scope f cdv A outer s H E) [] (start N vs) H s1:=fO S hr.hd e0 hl r x
 refine wpAny_mono (ht [] s1 (start N vs) H _ I hq) (fun fl s' hs=>?_) fun e s' hs=>hs
 have fin:∀{σ':St} {H':Hp} {v:V} {u:Value},Inv (cxOf CX P w K mg base N qual scope f cdv A outer s H E) [] σ' H' s'→RelV v u→Q v H'→CE outer P w H s Q u s' :=
  fun {σ' H' v u} J rv q=>⟨v,H',J.os,J.bare,J.base,J.hok,rv,q⟩
 cases fl with
 | ret u =>
  obtain ⟨v,σ',H',J,rv,q⟩:=hs
  exact fin J rv q
 | next =>
  obtain ⟨σ',H',J,q⟩:=hs
  exact fin (v:=V.non) (u:=Value.none) J rfl q
 | brk =>
  obtain ⟨_,_,_,q⟩:=hs
  exact False.elim q
 | cont =>
  obtain ⟨_,_,_,q⟩:=hs
  exact False.elim q
section
variable {X:Cx} {x:Str} {p pos:Pos} {e:Expr} {es:List Expr} {t:TA} {id T:String} {r:List V→Hp→VK→Prop}
def tCB (r:List V→Hp→VK→Prop) (t:TA):TE:=fun σ H Q=>t σ H fun vs H1=>r vs H1 Q
theorem dU (hc:bH X (.builtin id) r) (hg:Gl X x) (hm:X.mg x=none) (hv:bootBuiltins x=some (.builtin id)) (ha:PA X (e::es) t) (hn:x≠"__name__":=by decide) (hdb:(x == ("__debug__":Str))=false:=by decide)
  (he:starEach (e::es) X.env=(false,eval e X.env)::starEach es X.env:=by rfl) (hpl:(backTo pos (starEach es X.env)).any (·.1)=false:=by rfl):PE X (.Call (.Name x p) (e::es) [] pos) (tCB r t):=by
 intro pins s σ H Q I h
 refine wpAny_Call_Name_kw (cU I hg hm hv ?_ hn hdb)
 exact PyProof.Rows.callWith_builtin1 (thn (ha pos pins s σ H _ I h) fun us s1 ⟨vs,H1,I1,r1,q1⟩=>hc pins s1 σ H1 vs us Q I1 r1 q1) he hpl
theorem fV (hc:bH X (.type T) r) (hg:Gl X x) (hm:X.mg x=none) (hv:bootBuiltins x=some (.type T)) (ha:PA X (e::es) t) (hn:x≠"__name__":=by decide) (hdb:(x == ("__debug__":Str))=false:=by decide)
  (he:starEach (e::es) X.env=(false,eval e X.env)::starEach es X.env:=by rfl) (hpl:(backTo pos (starEach es X.env)).any (·.1)=false:=by rfl):PE X (.Call (.Name x p) (e::es) [] pos) (tCB r t):=by
 intro pins s σ H Q I h
 refine wpAny_Call_Name_kw (cU I hg hm hv ?_ hn hdb)
 exact PyProof.Rows.callWith_type1 (thn (ha pos pins s σ H _ I h) fun us s1 ⟨vs,H1,I1,r1,q1⟩=>hc pins s1 σ H1 vs us Q I1 r1 q1) he hpl
end
end L2
namespace HT
open PySem PyProof.Rows
section
open PySem.SeqAt
open PySem.AutoSeq1 (wpAny_loadPart')
open PySem.MeetsSeq PySem.MeetsSeq2 PySem.MeetsSeq3
end
section
variable {prog:Program} {w:World} {A:Around} {E:Value→Shared→Prop} {s:Shared}
theorem cat_tup {t b:Addr} {vs ws:List Value} {Q:Value→Shared→Prop} (ht:IsTup s.heap t vs.toArray) (hb:IsTup s.heap b ws.toArray) (hv:vs≠[])
  (h1:ws=[]→Q (.ref t) s) (h2:ws≠[]→Q (.ref s.heap.objs.size) { s with heap:=s.heap.push { cls:=.type "tuple",data:=.seq (vs++ws).toArray}})
  (hsz:vs.length+ws.length≤sizeLine):wpAny (model prog w) A (binaryOp .Add (.ref t) (.ref b)) Q E s:=by
 obtain ⟨⟨cls,dd,data,sl⟩,ho,hc,n,hd⟩:=id ht
 obtain ⟨⟨cls2,dd2,data2,sl2⟩,ho2,hc2,n2,hd2⟩:=id hb
 simp only at hc hd hc2 hd2
 subst hc hd hc2 hd2
 have e:vs.toArray++ws.toArray=(vs++ws).toArray:=by simp
 by_cases hw:ws=[]
 ·exact concat_meets ⟨_,ho,rfl⟩ ⟨_,ho2,rfl⟩ noFill_tuple_add seq_tuple_add PySem.F.slot_tuple_add PySem.F.entry_tuple_add (PySem.F.args_tuple_add_2 _ _)
   (tuple_addW1 t b vs.toArray ws.toArray n n2 dd dd2 sl sl2 (by simpa using hv) (by simp[hw])) ⟨ho,ho2,h1 hw⟩
 ·refine concat_meets ⟨_,ho,rfl⟩ ⟨_,ho2,rfl⟩ noFill_tuple_add seq_tuple_add PySem.F.slot_tuple_add PySem.F.entry_tuple_add (PySem.F.args_tuple_add_2 _ _)
   (tuple_addW2 t b vs.toArray ws.toArray n n2 dd dd2 sl sl2 (by simpa using hv) (by simpa using hw) (by rw[List.size_toArray,List.size_toArray];exact hsz)) ⟨ho,ho2,?_⟩
  rw[e]
  exact h2 hw
end
end HT
namespace L2
open PySem PySem.Spec PyProof.Rows
section
variable {X:Cx} {e:Expr} {te:TE} {lo hi:Option Expr} {tl th:TO} {pos p2:Pos}
def rCatT (K:PySem.W.Frag):R2:=fun x y H Q=>∃a b xs ys,x=.ref a∧y=.ref b∧SqT K H a xs∧SqT K H b ys∧xs≠[]∧xs.length+ys.length≤sizeLine ∧
 (ys=[]→Q (.ref a) H)∧(ys≠[]→∀p,H p=none→Q (.ref p) (upd H p (.tup (xs++ys))))
theorem Vals.nil_iff {xs:List V} {us:List Value} (r:Vals xs us):us=[]↔xs=[]:=by
 cases r with
 | nil=>simp
 | cons _ _=>simp
theorem op_catT:OpR X (binaryOp .Add) (rCatT X.K):=by
 intro pins s σ H x y v u Q I rx ry h
 obtain ⟨a,b,xs,ys,rfl,rfl,ha,hb,hx,hz,q1,q2⟩:=h
 cases rx
 cases ry
 obtain ⟨its,r1,p1,_⟩:=I.tuple ha
 obtain ⟨its2,r2,p2,_⟩:=I.tuple hb
 refine HT.cat_tup p1 p2 (fun z=>hx (r1.nil_iff.mp z)) (fun z=>⟨.ref a,H,I,rfl,q1 (r2.nil_iff.mp z)⟩) (fun z=>?_) (by rw[←r1.length,←r2.length];exact hz)
 refine ⟨.ref s.heap.objs.size,_,I.laid (t':=s.toks) (o:=.tup (xs++ys)) (fun b ob q=>Heap.get?_push_of_some _ q) (Nat.le_refl _) ?_,rfl,q2 (fun w=>z (r2.nil_iff.mpr w)) _ (I.hok.fresh (Nat.le_refl _))⟩
 exact ⟨by rw[List.length_append];exact hz,_,r1.append r2,IsTup.new _ _⟩
end
def ixN (n:Nat) (i:Int):Option Nat:=if 0≤i then (if i<n then some i.toNat else none) else if -(n:Int)≤i then some (i+n).toNat else none
def atI {α:Type} (xs:List α) (i:Int):Option α:=(ixN xs.length i).bind fun j=>xs[j]?
theorem ev {n:Nat} {i:Int} {j:Nat} (h:ixN n i=some j):seqIndex? i n=some j∧j<n ∧ -(n:Int)≤i∧i<n:=by
 unfold ixN at h
 by_cases h0:0≤i
 ·rw[if_pos h0] at h
  by_cases h1:i<n
  ·rw[if_pos h1] at h
   have e:i.toNat=j:=Option.some.inj h
   exact ⟨by rw[seqIndex_of h0 h1,e],by omega,by omega,h1⟩
  ·rw[if_neg h1] at h;cases h
 ·rw[if_neg h0] at h
  by_cases h1:-(n:Int)≤i
  ·rw[if_pos h1] at h
   have e:(i+n).toNat=j:=Option.some.inj h
   exact ⟨by rw[seqIndex_neg (by omega) h1,e],by omega,h1,by omega⟩
  ·rw[if_neg h1] at h;cases h
theorem db {α:Type} {xs:List α} {i:Int} {v:α} (h:atI xs i=some v):∃j,seqIndex? i xs.length=some j∧xs[j]?=some v∧j<xs.length ∧ -(xs.length:Int)≤i∧i<xs.length:=by
 unfold atI at h
 cases e:ixN xs.length i with
 | none=>rw[e] at h;cases h
 | some j =>
  rw[e] at h
  obtain ⟨h1,h2,h3,h4⟩:=ev e
  exact ⟨j,h1,h,h2,h3,h4⟩
theorem b5 {α:Type} {xs:List α} {j:Nat} {v:α} (h:xs[j]?=some v):atI xs (j:Int)=some v:=by
 have hj:j<xs.length:=(List.getElem?_eq_some_iff.mp h).1
 have e:ixN xs.length (j:Int)=some j:=by
  unfold ixN
  rw[if_pos (by omega),if_pos (by omega)];simp
 unfold atI;rw[e];exact h
def eH (b:Expr):Prop:=∀o i,subscripted b false o i=operate [o,i] (getItem o i)
def IxR (X:Cx) (r:R2):Prop :=
 ∀(value slice:Expr) (pins:List (Addr × Obj)) (s:Shared) (σ:St) (H:Hp) (x y:V) (v u:Value) (Q:VK),Inv X pins σ H s→RelV x v→RelV y u→r x y H Q →
  subscripted slice false v u=operate [v,u] (getItem v u)→wpAny (model X.prog X.w) X.A (subscriptTail value slice v u) (EP X pins σ Q) X.xe s
section
variable {X:Cx} {a b:Expr} {ta tb:TE} {pos:Pos}
theorem IxR.or {r r':R2} (h:IxR X r) (h':IxR X r'):IxR X (fun x y H Q=>r x y H Q∨r' x y H Q):=by
 intro value slice pins s σ H x y v u Q I rx ry q hs
 rcases q with q|q
 ·exact h value slice pins s σ H x y v u Q I rx ry q hs
 ·exact h' value slice pins s σ H x y v u Q I rx ry q hs
theorem pe_ix {r:R2} (hr:IxR X r) (ha:PE X a ta) (hb:PE X b tb) (hs:eH b):PE X (.Subscript a b pos) (tOp r ta tb):=by
 intro pins s σ H Q I h
 exact Subscript_ (binT ha hb I h fun v u s2 x y H2 I2 rx ry q=>hr a b pins s2 σ H2 x y v u Q I2 rx ry q (hs _ _))
def rIxL (K:PySem.W.Frag):R2:=fun x y H Q=>∃p xs i v,x=.ref p∧y=.int i∧SqL K H p xs∧atI xs i=some v∧Q v H
def rIxT (K:PySem.W.Frag):R2:=fun x y H Q=>∃p xs i v,x=.ref p∧y=.int i∧SqT K H p xs∧atI xs i=some v∧Q v H
def rIxS:R2:=fun x y H Q=>∃z i c,x=.str z∧y=.int i∧z.length≤sizeLine∧atI z.cps.toList i=some c∧Q (.str ⟨#[c]⟩) H
theorem ix_list:IxR X (rIxL X.K):=by
 intro value slice pins s σ H x y v u Q I rx ry h hs
 obtain ⟨p,xs,i,z,rfl,rfl,hq,he,q⟩:=h
 cases rx
 obtain ⟨t,rfl⟩:=ry
 obtain ⟨its,r,pl,hz⟩:=I.list hq
 obtain ⟨j,h1,h2,h3,h4,h5⟩:=db he
 obtain ⟨w,ew,rw'⟩:=r.get h2
 have hl:=r.length
 have hn:=cg
 have fin:EP X pins σ Q w s:=⟨z,H,I,rw',q⟩
 by_cases h0:0≤i
 ·have hj:i.toNat=j:=by
   rw[seqIndex_of h0 h5] at h1
   exact Option.some.inj h1
  exact item_listR pl.isList h0 (by omega) (by rw[hj];simpa using ew) fin hs
 ·have hj:(i+(its.toArray.size:Int)).toNat=j:=by
   rw[seqIndex_neg (by omega) h4] at h1
   rw[List.size_toArray,←hl]
   exact Option.some.inj h1
  exact subscriptTail_builtinR (x:=w) pl.isList.typeIs slot_list_getitem.lookup
   (wpAny_getItem_list_neg (Q:=fun r s'=>r=w∧EP X pins σ Q r s') pl.isList (by omega) (by rw[List.size_toArray] <;> omega) (by omega) (by rw[hj];simpa using ew) ⟨rfl,fin⟩) hs
theorem ix_tup:IxR X (rIxT X.K):=by
 intro value slice pins s σ H x y v u Q I rx ry h hs
 obtain ⟨p,xs,i,z,rfl,rfl,hq,he,q⟩:=h
 cases rx
 obtain ⟨t,rfl⟩:=ry
 obtain ⟨its,r,pl,hz⟩:=I.tuple hq
 obtain ⟨j,h1,h2,h3,h4,h5⟩:=db he
 obtain ⟨w,ew,rw'⟩:=r.get h2
 have hl:=r.length
 have hn:=cg
 have fin:EP X pins σ Q w s:=⟨z,H,I,rw',q⟩
 exact subscriptTail_builtinR (x:=w) pl.typeIs slot_tuple_getitem.lookup
  (getItem_tuple (j:=j) (Q:=fun r s'=>r=w∧EP X pins σ Q r s') pl (by omega) (by omega) (by rw[List.size_toArray,←hl];exact h1) (by simpa using ew) ⟨rfl,fin⟩) hs
theorem ix_str:IxR X rIxS:=by
 intro value slice pins s σ H x y v u Q I rx ry h hs
 obtain ⟨z,i,c,rfl,rfl,hz,he,q⟩:=h
 obtain ⟨t,rfl⟩:=rx
 obtain ⟨t',rfl⟩:=ry
 obtain ⟨j,h1,h2,h3,h4,h5⟩:=db he
 have hl:z.cps.toList.length=z.length:=by simp[Str.length]
 rw[hl] at h1 h4 h5
 have hn:=cg
 exact tail_any (typeIs_str s z t) slot_str_getitem.lookup (getItem_str (c:=c) (by
  have e1:decide (i < -(2 ^ 63:Int))=false:=decide_eq_false (by omega)
  have e2:decide (i≥2 ^ 63)=false:=decide_eq_false (by omega)
  rw[e1,e2,Bool.or_false]) (by rw[h1];simpa using h2) ⟨.str ⟨#[c]⟩,H,I.tok _,⟨_,rfl⟩,q⟩) hs
def rIx (K:PySem.W.Frag):R2:=fun x y H Q=>rIxL K x y H Q∨rIxT K x y H Q∨rIxS x y H Q
theorem ix_seq:IxR X (rIx X.K):=ix_list.or (ix_tup.or ix_str)
theorem fb (its:List Value) (n j:Nat) (u:Value):Obj.mapSeq (·.setIfInBounds j u) { cls:=.type "list",data:=.seq its.toArray n}={ cls:=.type "list",data:=.seq (its.set j u).toArray n}:=by
 simp[Obj.mapSeq]
theorem Inv.lst {pins:List (Addr × Obj)} {σ:St} {H:Hp} {s:Shared} {p:Addr} {xs:List V} (I:Inv X pins σ H s) (h:H p=some (.lst xs)) :
  ∃(its:List Value) (n:Nat),Vals xs its∧s.heap.get? p=some { cls:=.type "list",data:=.seq its.toArray n}∧xs.length≤sizeLine:=by
 obtain ⟨z,its,n,r,e⟩:=I.hok p _ h
 exact ⟨its,n,r,e,z⟩
theorem Inv.lstUpd {pins:List (Addr × Obj)} {σ:St} {H:Hp} {s:Shared} {p:Addr} {xs ys:List V} {its its':List Value} {n n':Nat} {f:Obj→Obj} (I:Inv X pins σ H s) (h:H p=some (.lst xs))
  (ho:s.heap.get? p=some { cls:=.type "list",data:=.seq its.toArray n}) (hf:f { cls:=.type "list",data:=.seq its.toArray n}={ cls:=.type "list",data:=.seq its'.toArray n'}) (r:Vals ys its') (hz:ys.length≤sizeLine) (t:Nat) :
  Inv X pins σ (upd H p (.lst ys)) { s with heap:=s.heap.update p f,toks:=t}:=by
 have e:(s.heap.update p f).get? p=some { cls:=.type "list",data:=.seq its'.toArray n'}:=by
  rw[Heap.get?_update_self f ho (by rw[hf] <;> rfl),hf]
 refine I.write (x:=p) (e:=p) (by rw[h];trivial) (.inl rfl) (fun b u hb q=>(Heap.get?_update_other _ _ (Ne.symm hb)).trans q) ⟨_,e⟩ ?_
 exact ⟨hz,its',n',r,e⟩
def rSetL:V→V→V→Hp→(Hp→Prop)→Prop:=fun o i v H Q=>∃p xs k j,o=.ref p∧i=.int k∧H p=some (.lst xs)∧ixN xs.length k=some j∧Q (upd H p (.lst (xs.set j v)))
theorem fW:PSet X rSetL:=by
 intro pins s σ H o i v ov iv u Q I ro ri rv h
 obtain ⟨p,xs,k,j,rfl,rfl,hp,hj,q⟩:=h
 cases ro
 obtain ⟨t,rfl⟩:=ri
 obtain ⟨its,n,r,ho,hz⟩:=I.lst hp
 obtain ⟨h1,h2,h3,h4⟩:=ev hj
 have hl:=r.length
 have hn:=cg
 have I':Inv X pins σ (upd H p (.lst (xs.set j v))) { s with heap:=s.heap.update p (Obj.mapSeq (·.setIfInBounds j u))} :=
  I.lstUpd hp ho (fb its n j u) (r.set rv j) (by rw[List.length_set];exact hz) s.toks
 by_cases h0:0≤k
 ·have hk:k.toNat=j:=by
   rw[seqIndex_of h0 h4] at h1
   exact Option.some.inj h1
  exact PySem.W.ki_setAt ho h0 (by omega) (by rw[List.size_toArray,←hl];exact h4) (by rw[hk];exact ⟨_,I',q⟩)
 ·have hk:(k+(its.toArray.size:Int)).toNat=j:=by
   rw[seqIndex_neg (by omega) h3] at h1
   rw[List.size_toArray,←hl]
   exact Option.some.inj h1
  exact PySem.W.ki_setBack ho (by omega) (by rw[List.size_toArray,←hl];exact h3) (by omega) (by rw[hk];exact ⟨_,I',q⟩)
variable {o e:Expr} {es:List Expr} {to:TE} {t:TA} {name:Str} {apos cpos:Pos} {T id:String} {r:V→List V→Hp→VK→Prop}
end
theorem Vals.zero:∀{us:List Value},Vals [] us→us=[]
 | _,.nil=>rfl
theorem Vals.rep {xs:List V} {us:List Value} (h:Vals xs us):∀k:Nat,Vals (List.replicate k xs).flatten (List.replicate k us).flatten
 | 0=>.nil
 | k+1=>by
  rw[List.replicate_succ,List.replicate_succ,List.flatten_cons,List.flatten_cons]
  exact Vals.append h (Vals.rep h k)
theorem dh (its:List Value):∀(k:Nat) (acc:List Value),
  List.foldl (fun x1 x2=>x1++x2) acc.toArray (List.replicate k its.toArray)=(acc++(List.replicate k its).flatten).toArray
 | 0,acc=>by simp
 | k+1,acc=>by
  have e:acc.toArray++its.toArray=(acc++its).toArray:=by simp
  have e2:(acc++its)++(List.replicate k its).flatten=acc++(List.replicate (k+1) its).flatten:=by
   rw[List.replicate_succ,List.flatten_cons,List.append_assoc]
  rw[←e2,←dh its k (acc++its),←e,List.replicate_succ,List.foldl_cons]
section
variable {X:Cx} {pins:List (Addr × Obj)} {σ:St} {H:Hp} {s:Shared} {l b:Addr} {xs ys zs:List V}
theorem Inv.lnew {its:List Value} {t':Nat} (I:Inv X pins σ H s) (hv:Vals ys its) (hz:ys.length≤sizeLine) :
  Inv X pins σ (upd H s.heap.objs.size (.lst ys)) { s with heap:=s.heap.push { cls:=.type "list",data:=.seq its.toArray},toks:=t'} :=
 I.laid (fun _ _ q=>Heap.get?_push_of_some _ q) (Nat.le_refl _) ⟨hz,its,0,hv,Heap.get?_push_size _ rfl⟩
theorem Inv.fresh (I:Inv X pins σ H s):H s.heap.objs.size=none:=I.hok.fresh (Nat.le_refl _)
theorem Inv.lstM (I:Inv X pins σ H s) (hH:H l=some (.lst xs)):xs.length≤sizeLine∧∃(its:List Value) (n:Nat),Vals xs its∧xs.length=its.length∧s.heap.get? l=some { cls:=.type "list",data:=.seq its.toArray n}:=by
 obtain ⟨z,its,n,r,e⟩:=I.hok l _ hH
 exact ⟨z,its,n,r,r.length,e⟩
theorem gk {n:Nat} (h:n≤sizeLine):Builtin.List.listTooLong n=false:=by
 unfold Builtin.List.listTooLong
 exact decide_eq_false (by omega)
end
section
variable {X:Cx}
def rCat:R2:=fun x y H Q=>∃l b xs zs,x=.ref l∧y=.ref b∧H l=some (.lst xs)∧H b=some (.lst zs)∧xs.length+zs.length≤sizeLine∧∀p,H p=none→Q (.ref p) (upd H p (.lst (xs++zs)))
theorem op_cat:OpR X (binaryOp .Add) rCat:=by
 intro pins s σ H x y v u Q I rx ry h
 obtain ⟨l,b,xs,zs,rfl,rfl,hH,hB,hz,q⟩:=h
 cases rx
 cases ry
 obtain ⟨z,its,n,r,hl,e⟩:=I.lstM hH
 obtain ⟨z2,its2,n2,r2,hl2,e2⟩:=I.lstM hB
 refine PySem.P.add_list e e2 ?_ (by rw[List.size_toArray,List.size_toArray];omega)
 have ea:its.toArray++its2.toArray=(its++its2).toArray:=by simp
 rw[ea]
 exact ⟨.ref _,_,I.lnew (t':=s.toks) (r.append r2) (by rw[List.length_append];omega),rfl,q _ I.fresh⟩
def rRep:R2:=fun x y H Q=>∃l k xs,x=.ref l∧y=.int k∧H l=some (.lst xs) ∧ -(2 ^ 63)≤k∧k<2 ^ 63∧xs.length * k.toNat≤sizeLine ∧
 ∀p,H p=none→Q (.ref p) (upd H p (.lst (List.replicate k.toNat xs).flatten))
theorem eR {α:Type} (xs:List α) (k:Nat):(List.replicate k xs).flatten.length=k * xs.length:=by
 induction k with
 | zero=>simp
 | succ k ih=>rw[List.replicate_succ,List.flatten_cons,List.length_append,ih,Nat.succ_mul,Nat.add_comm]
theorem op_rep:OpR X (binaryOp .Mult) rRep:=by
 intro pins s σ H x y v u Q I rx ry h
 obtain ⟨l,k,xs,rfl,rfl,hH,h1,h2,hz,q⟩:=h
 cases rx
 obtain ⟨t,rfl⟩:=ry
 obtain ⟨z,its,n,r,hl,e⟩:=I.lstM hH
 have hlen:its.toArray.size * k.toNat≤sizeLine:=by rw[List.size_toArray,←hl];exact hz
 have hcap:¬its.toArray.size * k.toNat>(2 ^ 63 - 1) / 8:=by
  have:(sizeLine:Nat)≤(2 ^ 63 - 1) / 8:=by decide
  omega
 have hfit:¬(!Builtin.List.listFitsIndex k)=true:=by
  rw[fitsIndex_both h1 h2]
  exact Bool.false_ne_true
 have hlong:¬Builtin.List.listTooLong (its.toArray.size * k.toNat)=true:=by
  rw[gk hlen]
  exact Bool.false_ne_true
 have hnew:List.foldl (fun x1 x2=>x1++x2) #[] (List.replicate (if its.toArray.isEmpty=true then 0 else k.toNat) its.toArray)=(List.replicate k.toNat its).flatten.toArray:=by
  have f0:∀m:Nat,List.foldl (fun x1 x2=>x1++x2) #[] (List.replicate m its.toArray)=(List.replicate m its).flatten.toArray:=fun m=>by
   have:=dh its m []
   rw[List.nil_append] at this
   exact this
  rw[f0]
  cases its with
  | nil=>simp
  | cons a r'=>rw[if_neg (by simp)]
 refine wpAny_binaryOp_repeat_ref (T:="list") (U:="int") (by decide) ⟨_,e,rfl⟩ (fun s'=>typeIs_int s' k t) noFill_list_mul F.fills_int_mul F.slot_int_rmul repeat_list F.slot_int_index.lookup
  (call_meets F.slot_int_rmul (typeIs_int s k t) F.entry_int_rmul (F.args_int_rmul_2 _ _) (int___rmul___int_list k t l its.toArray n)
   ⟨e,rfl,⟨_,e,rfl⟩,call_meets F.slot_list_mul ⟨_,e,rfl⟩ F.entry_list_mul (F.args_list_mul_2 _ _) (AutoListH.list___mul___list_int_3 l its.toArray n k t hfit hcap hlong) ⟨e,?_⟩⟩)
 rw[hnew]
 exact ⟨.ref _,_,I.lnew (t':=s.toks) (r.rep k.toNat) (by rw[eR,Nat.mul_comm];exact hz),rfl,q _ I.fresh⟩
end
section
variable {prog:Program} {w:World} {A:Around} {E:Value→Shared→Prop} {s:Shared}
end
section
variable {X:Cx}
end
end L2
namespace Att
open PySem PySem.W PySem.Calls PyProof.Rows
theorem cT {P:Params} {h:Heap}:∀(ns:List Int) (vs:List Value),WellAll P h vs (ns.map WData.int)→IntsAre vs ns:=by
 intro ns
 induction ns with
 | nil =>
  intro vs w
  rw[List.map_nil] at w
  cases w
  exact .nil
 | cons n ns ih =>
  intro vs w
  rw[List.map_cons] at w
  cases w with
  | cons a b =>
   cases a
   exact .cons _ _ (ih _ b)
theorem fS {l:OpenLaw} {n:Nat} (hn:l.most=some n) {P:Params} {h:Heap} {args:List WData} {vals:List Value}
  (hpre:l.row.toRowW.claim.pre args=true) (hwl:WellAll P h vals args) :
  ∃a vs ns,vals=[Value.ref a]∧args=[WData.list (ns.map WData.int)]∧h.get? a=some { cls:=.type "list",data:=.seq vs.toArray}∧IntsAre vs ns∧ns.length≤n:=by
 have hsh:WShape.hasAll [] args [.list .int]=true:=(pre_splitW hpre).1
 have hc:l.pre.holds [] { args:=args}=true:=(pre_splitW hpre).2
 obtain ⟨d,r,rfl,h1,h2⟩:=hasAllW_cons hsh
 obtain rfl:=hasAllW_nil h2
 obtain ⟨xs,rfl,h3⟩:=hasW_list h1
 obtain ⟨ns,rfl⟩:=items_int h3
 have hlen:ns.length≤n:=by
  unfold OpenLaw.pre at hc
  have h4:(WTm.not (.lt (.lit (.int (n:Int))) (.len (.arg 0)))).holds [] { args:=[.list (ns.map .int)]}=true:=by
   have h4:=(holds_andW hc).1
   rw[hn] at h4
   exact h4
  have h5:=condW_of h4 (w_not (w_lt w_lit (w_len_list (w_arg rfl))))
  rw[List.length_map] at h5
  refine Nat.le_of_not_lt fun q=>?_
  have q':(n:Int)<((ns.length:Nat):Int):=by omega
  first
   | (rw[decide_eq_true q'] at h5;exact absurd h5 (by decide))
   | (simp at h5;omega)
 cases hwl with
 | cons w1 w2 =>
  cases w2
  cases w1 with
  | list ho hall=>exact ⟨_,_,ns,rfl,rfl,ho,cT ns _ hall,hlen⟩
theorem fP (l:OpenLaw) (args:List WData):l.row.toRowW.claim.post args (.bool true) args=true :=
 postW_of (r:=l.row.toRowW) (X:=(true == true))
  (show WShape.has [] (.bool true) .bool=true by first | rfl | decide | simp[WShape.has,WShape.arms,WShape.armsAll])
  (show (WTm.eq .res (.lit (.bool true))).value [] { args:=args,res:=some (.bool true),after:=args}=some (.bool (true == true)) from w_eq_bool (w_res rfl) w_lit) rfl
theorem d3 {l:OpenLaw} {n:Nat} {q:Program} {loose:List Str} {XP:(Str→Option Value)→Heap→Prop} {YP:World→Heap→Prop} {d:DefRec}
  (hn:l.most=some n) (hdf:d.params.defaults=[])
  (call:∀(w:World) (s₀ s₁:Shared) (mg mb:Str→Option Value) (fa:Addr) (o:Obj) (pm cd doc:Value) (a:Addr) (vs:List Value) (ns:List Int),
   Ground q loose [] XP w s₀ mg mb s₁.heap→YP w s₁.heap →
   s₁.heap.get? fa=some o→o.data=.func (docDef d.name d.params d.body d.scope pm cd doc)→s₁.heap.CodeRec cd d.name→mg d.name=some (.ref fa) →
   s₁.heap.get? a=some { cls:=.type "list",data:=.seq vs.toArray}→IntsAre vs ns→ns.length≤n→s₁.gens=#[] →
   codeAny (model l.prog w) callerA (.call (.ref fa) ⟨[.ref a],[]⟩) (fun r s'=>r=.ok (.ret (.bool true))∧OldK s₁.heap s'.heap∧s'.os=s₁.os∧AllBare s'.gens) s₁) :
  WalkO q loose XP YP l.row.toRowW d [] (fun f vs=>PySem.call f vs):=by
 intro w s₀ s₁ mg mb G Y fa o pm cd doc dV kV ho hd hcd hD hmg hg args vals as hpre hlay hrd hwl hlo
 obtain rfl:dV=.none:=Dflts.none hD hdf
 obtain rfl:kV=.none:=Dflts.noKw hD
 obtain ⟨a,vs,ns,rfl,rfl,hobj,hints,hlen⟩:=fS hn hpre hwl
 refine enter_call (codeAny_mono (call w s₀ s₁ mg mb fa o pm cd doc a vs ns G Y ho (fd_plain hd) hcd hmg hobj hints hlen hg) fun r s' hq=>?_)
 obtain ⟨rfl,h2,h3,h4⟩:=hq
 exact ⟨.inl ⟨.bool true,.bool true,[],rfl,fun _=>rfl,.bool true,fP l _,fun _=>⟨List.Pairwise.nil,fun _ hm=>(nomatch hm)⟩⟩,h2,h3,h4⟩
section
variable {prog:Program} {w:World} {A:Around} {E:Value→Shared→Prop} {s:Shared} {K:Frag}
end
end Att
namespace L2
open PySem PySem.Spec PyProof.Rows
theorem dn:∀{vs:List Value} {ns:List Int},IntsAre vs ns→Vals (ns.map V.int) vs
 | _,_,.nil=>.nil
 | _,_,.cons n t h=>.cons ⟨t,rfl⟩ (dn h)
def Only (H:Hp):Prop:=∀b,H b=none∨∃o xs,H b=some (.frz o (.lst xs))
theorem gm {P:Program} {w:World} {K:PySem.W.Frag} {mg mb:Str→Option Value} {CX:CXT} {k:Nat} {fa a:Addr} {fd:FuncData} {x:Str} {sp:Sp} {s₁:Shared} {vs:List Value} {ns:List Int}
  (KX:K.In s₁.heap) (hns:s₁.heap.Ns mainGlobals mg) (hb:s₁.heap.Ns builtinsNs mb) (hbb:∀x:Str,x≠"__name__"→mb x=bootBuiltins x) (hlim:s₁.heap.NoLimit) (hg:s₁.gens=#[])
  (ha:s₁.heap.get? a=some { cls:=.type "list",data:=.seq vs.toArray}) (hi:IntsAre vs ns) (hl:ns.length≤sizeLine) (hr:Room k callerA)
  (F:∀base:Heap,K.In base→base.Ns mainGlobals mg→FnOk P w K mg base CX k fa fd [x] sp) (hbind:∀(s:Shared) (u:Value),BindsTo s fd ⟨[u],[]⟩ [(x,u)])
  (hsp:∀H:Hp,Only H→SqL K H a (ns.map V.int)→sp [.ref a] H (fun v _=>v=.bl true) fun _ _ _=>False)
  (hCX:∀H e s',CX [] H s₁ (fun _ _ _=>False) e s'→False) :
  codeAny (model P w) callerA (.call (.ref fa) ⟨[.ref a],[]⟩) (fun r s'=>r=.ok (.ret (.bool true))∧OldK s₁.heap s'.heap∧s'.os=s₁.os∧AllBare s'.gens) s₁:=by
 have rv:=dn hi
 have lenV:=hi.length
 have core:∀H:Hp,Only H→SqL K H a (ns.map V.int)→HOk P w H s₁.heap→(∀b,H b≠none→b=a)→(H a≠none→K.lookup a=none) →
   codeAny (model P w) callerA (.call (.ref fa) ⟨[.ref a],[]⟩) (fun r s'=>r=.ok (.ret (.bool true))∧OldK s₁.heap s'.heap∧s'.os=s₁.os∧AllBare s'.gens) s₁:=by
  intro H hO hS hok hA hK
  have base_of:∀{b:Addr} {o:Obj},s₁.heap.get? b=some o→H b=none→(hidT s₁.heap H).get? b=some o:=fun e n=>f7 e n
  have noA:∀{b:Addr} {o:Obj} {es:Array DictEntry} {ep:Nat},s₁.heap.get? b=some o→o.data=.dict es ep→H b=none:=fun {b o es ep} e d=>by
   cases q:H b with
   | none=>rfl
   | some u =>
    have e':b=a:=hA b (by rw[q];simp)
    subst e'
    rw[ha] at e;cases e
    have d':Data.seq vs.toArray _=Data.dict es ep:=d
    cases d'
  have nsK:∀{b:Addr} {m:Str→Option Value},s₁.heap.Ns b m→(hidT s₁.heap H).Ns b m:=fun {b m} ⟨o,es,ep,e,d,r⟩=>⟨o,es,ep,base_of e (noA e d),d,r⟩
  have hKb:K.In (hidT s₁.heap H):=fun b o e=>base_of (KX b o e) (by
   cases q:H b with
   | none=>rfl
   | some u =>
    have e':b=a:=hA b (by rw[q];simp)
    subst e'
    rw[hK (by rw[q];simp)] at e;cases e)
  have hM:Mod K mg (hidT s₁.heap H):=⟨hKb,nsK hns,⟨mb,nsK hb,hbb⟩,let ⟨mc,h1,h2⟩:=hlim;⟨mc,nsK h1,h2⟩⟩
  have e0:Env0 P w K mg (hidT s₁.heap H) callerA [] s₁ H:=⟨rfl,hM,fun b o e=>of_hidT e,Nat.le_of_eq (fJ _ _),trivial,fun b hb=>absurd (show b∈([]:List Addr) from hb) (by simp),hok,.of_eq hg⟩
  refine codeAny_mono ((F _ hKb (nsK hns)).run callerA [] s₁ H ⟨[.ref a],[]⟩ [.ref a] [.ref a] _ _ hr e0 (hbind s₁ (.ref a)) (.cons rfl .nil) (hsp H hO hS)) fun r s' h=>?_
  cases r with
  | error e=>exact (hCX H e s' h).elim
  | ok fl =>
   cases fl with
   | next=>exact False.elim h
   | brk=>exact False.elim h
   | cont=>exact False.elim h
   | ret u =>
    obtain ⟨v,H',os,bare,un,hok',r',q⟩:=h
    have q':v=.bl true:=q
    subst q'
    obtain rfl:u=Value.bool true:=r'
    refine ⟨rfl,OldK.of_keep fun b o e=>?_,os,bare⟩
    cases q:H b with
    | none=>exact un.keep b o e q (by intro z;exact absurd (show b∈([]:List Addr) from z) (by simp)) (by simp)
    | some u =>
     rcases hO b with z|⟨ob,xs,z⟩
     ·rw[q] at z;cases z
     ·have z2:=un.frzs b ob _ z
      obtain ⟨e1,_⟩:=hok b _ z
      obtain ⟨e2,_⟩:=hok' b _ z2
      rw[e] at e1;cases e1
      exact e2
 cases hk:K.lookup a with
 | some o =>
  have e:=KX a o hk
  rw[ha] at e
  cases e
  refine core (fun _=>none) (fun _=>.inl rfl) (.inr ⟨_,vs.toArray,_,hk,rfl,rfl,rfl,by rw[List.size_toArray,lenV];exact hl,by simpa using rv⟩) (fun b u z=>by have z':(none:Option HO)=some u:=z;cases z') (fun b z=>absurd rfl z) fun z=>absurd rfl z
 | none =>
  refine core (fun b=>if b=a then some (.frz { cls:=.type "list",data:=.seq vs.toArray} (.lst (ns.map V.int))) else none) (fun b=>?_) (.inl (.inr ⟨{ cls:=.type "list",data:=.seq vs.toArray},if_pos rfl⟩)) (fun b u z=>?_) (fun b z=>?_) fun _=>hk
  ·by_cases hb:b=a
   ·exact .inr ⟨_,_,if_pos hb⟩
   ·exact .inl (if_neg hb)
  ·by_cases hb:b=a
   ·have z':=(if_pos hb).symm.trans z
    cases z'
    subst hb
    exact ⟨ha,by rw[List.length_map];exact hl,vs,_,rv,ha⟩
   ·have z':=(if_neg hb).symm.trans z
    cases z'
  ·by_cases hb:b=a
   ·exact hb
   ·exact absurd (if_neg hb) z
abbrev KOf {K:PySem.W.Frag} {h:Heap} (_:K.In h):PySem.W.Frag:=K
theorem walk_of {l:PySem.W.OpenLaw} {n k:Nat} {q:Program} {loose:List Str} {XP:(Str→Option Value)→Heap→Prop} {YP:World→Heap→Prop} {d:DefRec} {K:Params→PySem.W.Frag} {CX:World→CXT} {sp:World→Sp} {x:Str}
  (hn:l.most=some n) (hn2:n≤sizeLine) (hdf:d.params.defaults=[]) (hr:Room k callerA)
  (hY:∀(w:World) (h:Heap),YP w h→(K w.params).In h)
  (F:∀(w:World) (mg:Str→Option Value) (fa:Addr) (h:Heap),(K w.params).In h→h.Ns mainGlobals mg→mg d.name=some (.ref fa) →
   ∃fd:FuncData,(∀(s:Shared) (u:Value),BindsTo s fd ⟨[u],[]⟩ [(x,u)]) ∧
    ∀base:Heap,(K w.params).In base→base.Ns mainGlobals mg→FnOk l.prog w (K w.params) mg base (CX w) k fa fd [x] (sp w))
  (hsp:∀(w:World) (H:Hp) (a:Addr) (ns:List Int),ns.length≤n→Only H→SqL (K w.params) H a (ns.map V.int)→sp w [.ref a] H (fun v _=>v=.bl true) fun _ _ _=>False)
  (hCX:∀(w:World) (H:Hp) (s:Shared) (e:Value) (s':Shared),CX w [] H s (fun _ _ _=>False) e s'→False) :
  PySem.W.WalkO q loose XP YP l.row.toRowW d [] (fun f vs=>PySem.call f vs):=by
 refine Att.d3 hn hdf fun w s₀ s₁ mg mb fa o pm cd doc a vs ns G Y ho hd hcd hmg hobj hints hlen hg=>?_
 have KX:=hY w _ Y
 obtain ⟨fd,hb,hF⟩:=F w mg fa _ KX G.T.g hmg
 exact gm KX G.T.g G.T.b G.T.builtins G.T.nolimit hg hobj hints (Nat.le_trans hlen hn2) hr hF hb (fun H hO hS=>hsp w H a ns hlen hO hS) fun H e s'=>hCX w H s₁ e s'
def bN (s:Stmt):Arguments:=match s with
 | .FunctionDef _ a _ _ _ _ _ _ _ _=>a
 | _=>{ posonlyargs:=[],args:=[],vararg:=none,kwonlyargs:=[],kw_defaults:=[],kwarg:=none,defaults:=[]}
def ar (s:Stmt):List Stmt:=match s with
 | .FunctionDef _ _ b _ _ _ _ _ _ _=>b
 | _=>[]
def af (s:Stmt):Scope:=match s with
 | .FunctionDef _ _ _ _ _ _ sc _ _ _=>sc
 | _=>{ kind:=.function,names:=[],isGenerator:=false,isCoroutine:=false}
structure Fun (K:PySem.W.Frag) (x qual:Str) (st:Stmt) (f:Addr) (fd:FuncData):Prop where
 ex:∃(oc:Value) (od:Option Addr) (kV doc pm:Value) (an:Option Addr) (cdv ct:Value) (osl:Array (Option Value)),
  fd=PySem.W.fnOf x qual (bN st) (ar st) (af st) .none kV doc pm an cdv ct∧K.lookup f=some ⟨oc,od,.func fd,osl⟩∧PySem.W.codeIn K cdv qual=true
 kp:PySem.W.keepIn K (.ref f)=true
section
variable {P:Program} {w:World} {K:PySem.W.Frag} {mg:Str→Option Value} {base:Heap}
theorem Fun.binds {x qual:Str} {st:Stmt} {f:Addr} {fd:FuncData} {ps:List Str} (F:Fun K x qual st f fd)
  (h:∀(kV doc pm:Value) (an:Option Addr) (cdv ct:Value) (us:List Value),us.length=ps.length→bindArgs (PySem.W.fnOf x qual (bN st) (ar st) (af st) .none kV doc pm an cdv ct) ⟨us,[]⟩=pure (ps.zip us)):cN K fd ps []:=by
 obtain ⟨oc,od,kV,doc,pm,an,cdv,ct,osl,rfl,lk,hcd⟩:=F.ex
 exact .all (h kV doc pm an cdv ct)
theorem fun_mk {x qual:Str} {st:Stmt} {f:Addr} {oc:Value} {od an:Option Addr} {osl:Array (Option Value)} {kV doc pm cdv ct:Value} (l:K.lookup f=some ⟨oc,od,.func (PySem.W.fnOf x qual (bN st) (ar st) (af st) .none kV doc pm an cdv ct),osl⟩)
  (c:PySem.W.codeIn K cdv qual=true) (k:PySem.W.keepIn K (.ref f)=true):Fun K x qual st f (PySem.W.fnOf x qual (bN st) (ar st) (af st) .none kV doc pm an cdv ct):=⟨⟨oc,od,kV,doc,pm,an,cdv,ct,osl,rfl,l,c⟩,k⟩
end
section
variable {X:Cx}
end
end L2
namespace MM
open PySem PySem.Spec PyProof.Rows L2
inductive PV where
 | non | bl (b:Bool) | int (i:Int) | str (x:Str) | tup (xs:List PV) | frl (xs:List PV) | loc (n:Nat)
structure MExc where
 cls:Str
 fs:List (Str × PV):=[]
inductive MO where
 | lst (xs:List PV)
 | dic (kvs:List (PV × PV))
 | exc (x:MExc)
abbrev MH:=List MO
abbrev PSt:=List (Option PV)
inductive Out (α:Type) where
 | ok (a:α) (h:MH)
 | exc (x:MExc) (h:MH)
 | bad
def Out.bind {α β:Type} (o:Out α) (f:α→MH→Out β):Out β:=match o with
 | .ok a h=>f a h
 | .exc x h=>.exc x h
 | .bad=>.bad
@[simp] theorem Out.bind_ok {α β:Type} (a:α) (h:MH) (f:α→MH→Out β):(Out.ok a h).bind f=f a h:=rfl
@[simp] theorem Out.bind_exc {α β:Type} (x:MExc) (h:MH) (f:α→MH→Out β):(Out.exc x h).bind f=.exc x h:=rfl
@[simp] theorem Out.bind_bad {α β:Type} (f:α→MH→Out β):(Out.bad:Out α).bind f=.bad:=rfl
inductive SOut where
 | nx (σ:PSt) (h:MH)
 | rt (v:PV) (h:MH)
 | bk (σ:PSt) (h:MH)
 | ct (σ:PSt) (h:MH)
 | exc (x:MExc) (σ:PSt) (h:MH)
 | rse (x:MExc) (σ:PSt) (h:MH)
 | bad
def Out.ne {α:Type} (o:Out α):Out α:=match o with
 | .exc _ _=>.bad
 | o=>o
@[simp] theorem Out.ne_ok {α:Type} (a:α) (h:MH):(Out.ok a h).ne=.ok a h:=rfl
@[simp] theorem Out.ne_bad {α:Type}:(Out.bad:Out α).ne=.bad:=rfl
@[simp] theorem Out.ne_ne {α:Type} (o:Out α):o.ne.ne=o.ne:=by cases o <;> rfl
def SqF (K:PySem.W.Frag) (H:Hp) (a:Addr) (ys:List V):Prop :=
 (∃o,H a=some (.frz o (.lst ys))) ∨
  ∃(o:Obj) (its:Array Value) (n:Nat),K.lookup a=some o∧o.cls=.type "list"∧o.dict=none∧o.data=.seq its n∧its.size≤sizeLine∧Vals ys its.toList
theorem SqF.sq {K:PySem.W.Frag} {H:Hp} {a:Addr} {ys:List V} (h:SqF K H a ys):SqL K H a ys:=by
 rcases h with h|h
 ·exact .inl (.inr h)
 ·exact .inr h
mutual
inductive RP (K:PySem.W.Frag) (ρ:List Addr) (H:Hp):PV→V→Prop where
 | non:RP K ρ H .non .non
 | bl (b:Bool):RP K ρ H (.bl b) (.bl b)
 | int (i:Int):RP K ρ H (.int i) (.int i)
 | str (x:Str):RP K ρ H (.str x) (.str x)
 | tup {xs:List PV} {a:Addr} {ys:List V} (s:SqT K H a ys) (r:RPs K ρ H xs ys):RP K ρ H (.tup xs) (.ref a)
 | frl {xs:List PV} {a:Addr} {ys:List V} (s:SqF K H a ys) (r:RPs K ρ H xs ys):RP K ρ H (.frl xs) (.ref a)
 | loc {n:Nat} {a:Addr} (e:ρ[n]?=some a):RP K ρ H (.loc n) (.ref a)
inductive RPs (K:PySem.W.Frag) (ρ:List Addr) (H:Hp):List PV→List V→Prop where
 | nil:RPs K ρ H [] []
 | cons {x:PV} {y:V} {xs:List PV} {ys:List V} (r:RP K ρ H x y) (t:RPs K ρ H xs ys):RPs K ρ H (x::xs) (y::ys)
end
structure Le (ρ:List Addr) (H:Hp) (ρ':List Addr) (H':Hp):Prop where
 pre:∃m,ρ'=ρ++m
 tup:∀a xs,H a=some (.tup xs)→H' a=some (.tup xs)
 frz:∀a o u,H a=some (.frz o u)→H' a=some (.frz o u)
theorem Le.refl (ρ:List Addr) (H:Hp):Le ρ H ρ H:=⟨⟨[],by simp⟩,fun _ _ h=>h,fun _ _ _ h=>h⟩
theorem Le.trans {ρ ρ1 ρ2:List Addr} {H H1 H2:Hp} (a:Le ρ H ρ1 H1) (b:Le ρ1 H1 ρ2 H2):Le ρ H ρ2 H2:=by
 obtain ⟨m,e⟩:=a.pre
 obtain ⟨m',e'⟩:=b.pre
 exact ⟨⟨m++m',by rw[e',e,List.append_assoc]⟩,fun c xs h=>b.tup c xs (a.tup c xs h),fun c o u h=>b.frz c o u (a.frz c o u h)⟩
theorem Le.get {ρ ρ':List Addr} {H H':Hp} (l:Le ρ H ρ' H') {n:Nat} {a:Addr} (e:ρ[n]?=some a):ρ'[n]?=some a:=by
 obtain ⟨m,e'⟩:=l.pre
 rw[e',List.getElem?_append_left (List.getElem?_eq_some_iff.mp e).1];exact e
theorem Le.sqt {K:PySem.W.Frag} {ρ ρ':List Addr} {H H':Hp} (l:Le ρ H ρ' H') {a:Addr} {xs:List V} (h:SqT K H a xs):SqT K H' a xs:=by
 rcases h with (h|⟨o,h⟩)|h
 ·exact .inl (.inl (l.tup _ _ h))
 ·exact .inl (.inr ⟨o,l.frz _ _ _ h⟩)
 ·exact .inr h
theorem Le.sqf {K:PySem.W.Frag} {ρ ρ':List Addr} {H H':Hp} (l:Le ρ H ρ' H') {a:Addr} {xs:List V} (h:SqF K H a xs):SqF K H' a xs:=by
 rcases h with ⟨o,h⟩|h
 ·exact .inl ⟨o,l.frz _ _ _ h⟩
 ·exact .inr h
section
variable {K:PySem.W.Frag} {ρ ρ':List Addr} {H H':Hp}
mutual
theorem RP.le (l:Le ρ H ρ' H'):∀{x:PV} {y:V},RP K ρ H x y→RP K ρ' H' x y
 | _,_,.non=>.non
 | _,_,.bl b=>.bl b
 | _,_,.int i=>.int i
 | _,_,.str x=>.str x
 | _,_,.tup s r=>.tup (l.sqt s) (RPs.le l r)
 | _,_,.frl s r=>.frl (l.sqf s) (RPs.le l r)
 | _,_,.loc e=>.loc (l.get e)
theorem RPs.le (l:Le ρ H ρ' H'):∀{xs:List PV} {ys:List V},RPs K ρ H xs ys→RPs K ρ' H' xs ys
 | _,_,.nil=>.nil
 | _,_,.cons r t=>.cons (RP.le l r) (RPs.le l t)
end
theorem RPs.length:∀{xs:List PV} {ys:List V},RPs K ρ H xs ys→xs.length=ys.length
 | _,_,.nil=>rfl
 | _,_,.cons _ t=>congrArg (·+1) (RPs.length t)
theorem RPs.get:∀{xs:List PV} {ys:List V} {i:Nat} {x:PV},RPs K ρ H xs ys→xs[i]?=some x→∃y,ys[i]?=some y∧RP K ρ H x y
 | _,_,_,_,.nil,e=>by simp at e
 | _,_,0,_,.cons r _,e=>by simp at e;subst e;exact ⟨_,rfl,r⟩
 | _,_,i+1,x,.cons _ t,e=>by
  obtain ⟨u,h1,h2⟩:=RPs.get (i:=i) (x:=x) t (by simpa using e)
  exact ⟨u,by simpa using h1,h2⟩
theorem RPs.set {x:PV} {u:V} (r:RP K ρ H x u):∀{xs:List PV} {us:List V} (i:Nat),RPs K ρ H xs us→RPs K ρ H (xs.set i x) (us.set i u)
 | _,_,_,.nil=>.nil
 | _,_,0,.cons _ t=>.cons r t
 | _,_,i+1,.cons q t=>.cons q (RPs.set r i t)
theorem RPs.append:∀{xs ys:List PV} {us ws:List V},RPs K ρ H xs us→RPs K ρ H ys ws→RPs K ρ H (xs++ys) (us++ws)
 | _,_,_,_,.nil,s=>s
 | _,_,_,_,.cons r t,s=>.cons r (RPs.append t s)
theorem RPs.ints:∀(ns:List Int),RPs K ρ H (ns.map PV.int) (ns.map V.int)
 | []=>.nil
 | n::r=>.cons (.int n) (RPs.ints r)
end
def ExcAt (a C:Addr) (h:Heap):Prop:=∃o vs,h.get? a=some o∧o.cls=.ref C∧o.data=.fields vs
abbrev MGl:=Str→Option Value
def RO (K:PySem.W.Frag) (mg:MGl) (ρ:List Addr) (H:Hp) (a:Addr):MO→Option HO→Prop
 | .lst xs,oh=>∃ys,oh=some (.lst ys)∧RPs K ρ H xs ys
 | .dic kvs,oh=>kvs=[]∧oh=some (.dK [])
 | .exc x,oh=>x.fs=[]∧∃C,mg x.cls=some (.ref C)∧oh=some (.ext (ExcAt a C))
structure RH (K:PySem.W.Frag) (mg:MGl) (ρ:List Addr) (H:Hp) (h:MH):Prop where
 len:ρ.length=h.length
 nd:ρ.Nodup
 at':∀(n:Nat) (a:Addr) (o:MO),ρ[n]?=some a→h[n]?=some o→RO K mg ρ H a o (H a)
theorem RO.le {K:PySem.W.Frag} {mg:MGl} {ρ ρ':List Addr} {H H':Hp} {a:Addr} (l:Le ρ H ρ' H') {o:MO} {oh:Option HO} (r:RO K mg ρ H a o oh):RO K mg ρ' H' a o oh:=by
 cases o with
 | lst xs=>obtain ⟨ys,e,r⟩:=r;exact ⟨ys,e,r.le l⟩
 | dic kvs=>exact r
 | exc x=>exact r
theorem RO.some {K:PySem.W.Frag} {mg:MGl} {ρ:List Addr} {H:Hp} {a:Addr} {o:MO} {oh:Option HO} (r:RO K mg ρ H a o oh):oh≠none:=by
 cases o with
 | lst xs=>obtain ⟨ys,e,_⟩:=r;rw[e];simp
 | dic kvs=>obtain ⟨_,e⟩:=r;rw[e];simp
 | exc x=>obtain ⟨_,C,_,e⟩:=r;rw[e];simp
theorem RO.plain {K:PySem.W.Frag} {mg:MGl} {ρ:List Addr} {H:Hp} {a:Addr} {o:MO} {oh:Option HO} (r:RO K mg ρ H a o oh):(∀xs,oh≠Option.some (.tup xs))∧∀p u,oh≠Option.some (.frz p u):=by
 cases o with
 | lst xs=>obtain ⟨ys,e,_⟩:=r;rw[e];exact ⟨(fun _ z=>nomatch z),(fun _ _ z=>nomatch z)⟩
 | dic kvs=>obtain ⟨_,e⟩:=r;rw[e];exact ⟨(fun _ z=>nomatch z),(fun _ _ z=>nomatch z)⟩
 | exc x=>obtain ⟨_,C,_,e⟩:=r;rw[e];exact ⟨(fun _ z=>nomatch z),(fun _ _ z=>nomatch z)⟩
section
variable {K:PySem.W.Frag} {mg:MGl} {ρ:List Addr} {H:Hp} {h:MH}
theorem RH.obj (r:RH K mg ρ H h) {n:Nat} {a:Addr} (e:ρ[n]?=some a):∃o,h[n]?=some o∧RO K mg ρ H a o (H a):=by
 have hn:n<h.length:=by rw[←r.len];exact (List.getElem?_eq_some_iff.mp e).1
 exact ⟨h[n],by simp[hn],r.at' n a _ e (by simp[hn])⟩
theorem RH.new (r:RH K mg ρ H h) {p:Addr} (hp:H p=none) {o:MO} {ho:HO} (hn:RO K mg ρ H p o (some ho)):RH K mg (ρ++[p]) (upd H p ho) (h++[o])∧Le ρ H (ρ++[p]) (upd H p ho):=by
 have hne:∀n a,ρ[n]?=some a→a≠p:=fun n a e z=>by
  obtain ⟨o',_,q⟩:=r.obj e
  rw[z,hp] at q
  exact q.some rfl
 have l:Le ρ H (ρ++[p]) (upd H p ho):=⟨⟨[p],rfl⟩,fun a xs e=>by rw[aq (aE e hp)];exact e,fun a ob u e=>by rw[aq (aE e hp)];exact e⟩
 refine ⟨⟨by simp[r.len],?_,fun n a o' e1 e2=>?_⟩,l⟩
 ·rw[List.nodup_append]
  refine ⟨r.nd,by simp,fun a ha b hb=>?_⟩
  obtain ⟨n,e⟩:=List.mem_iff_getElem?.mp ha
  have hb':b=p:=by simpa using hb
  rw[hb'];exact hne n a e
 ·by_cases hlt:n<ρ.length
  ·rw[List.getElem?_append_left hlt] at e1
   rw[List.getElem?_append_left (by rw[←r.len];exact hlt)] at e2
   rw[aq (hne n a e1)]
   exact (r.at' n a o' e1 e2).le l
  ·rw[List.getElem?_append_right (by omega)] at e1
   rw[List.getElem?_append_right (by rw[←r.len];omega)] at e2
   have hn0:n - ρ.length=0:=by
    rcases Nat.eq_zero_or_pos (n - ρ.length) with z|z
    ·exact z
    ·rw[List.getElem?_eq_none (by simp;omega)] at e1;cases e1
   rw[hn0] at e1
   have hn1:n - h.length=0:=by have:=r.len;omega
   rw[hn1] at e2
   simp at e1 e2
   subst e1;subst e2
   rw[bO]
   exact hn.le l
theorem RH.put (r:RH K mg ρ H h) {n:Nat} {a:Addr} (e:ρ[n]?=some a) {o:MO} {ho:HO} (hn:RO K mg ρ H a o (some ho)):RH K mg ρ (upd H a ho) (h.set n o)∧Le ρ H ρ (upd H a ho):=by
 obtain ⟨o0,_,q⟩:=r.obj e
 obtain ⟨q1,q2⟩:=q.plain
 have l:Le ρ H ρ (upd H a ho):=⟨⟨[],by simp⟩,fun b xs z=>by
   have:b≠a:=by rintro rfl;exact q1 _ z
   rw[aq this];exact z,fun b ob u z=>by
   have:b≠a:=by rintro rfl;exact q2 _ _ z
   rw[aq this];exact z⟩
 refine ⟨⟨by simp[r.len],r.nd,fun m b o' e1 e2=>?_⟩,l⟩
 by_cases hm:m=n
 ·subst hm
  rw[e] at e1;cases e1
  rw[bO]
  have:m<h.length:=by rw[←r.len];exact (List.getElem?_eq_some_iff.mp e).1
  rw[List.getElem?_set_self this] at e2
  cases e2
  exact hn.le l
 ·rw[List.getElem?_set_ne (fun z=>hm z.symm)] at e2
  have hb:b≠a:=by
   rintro rfl
   have h1:=List.getElem?_eq_some_iff.mp e
   have h2:=List.getElem?_eq_some_iff.mp e1
   obtain ⟨l1,g1⟩:=h1
   obtain ⟨l2,g2⟩:=h2
   exact hm ((List.getElem_inj r.nd).mp (g2.trans g1.symm))
  rw[aq hb]
  exact (r.at' m b o' e1 e2).le l
theorem RH.tup (r:RH K mg ρ H h) {p:Addr} (hp:H p=none) (ys:List V):RH K mg ρ (upd H p (.tup ys)) h∧Le ρ H ρ (upd H p (.tup ys)):=by
 have hne:∀n a,ρ[n]?=some a→a≠p:=fun n a e z=>by
  obtain ⟨o',_,q⟩:=r.obj e
  rw[z,hp] at q
  exact q.some rfl
 have l:Le ρ H ρ (upd H p (.tup ys)):=⟨⟨[],by simp⟩,fun a xs e=>by rw[aq (aE e hp)];exact e,fun a ob u e=>by rw[aq (aE e hp)];exact e⟩
 exact ⟨⟨r.len,r.nd,fun n a o e1 e2=>by rw[aq (hne n a e1)];exact (r.at' n a o e1 e2).le l⟩,l⟩
end
def RS (K:PySem.W.Frag) (ρ:List Addr) (H:Hp) (σp:PSt) (σ:L2.St):Prop :=
 σ.length=σp.length∧∀(i:Nat) (v:PV),σp[i]?=some (some v)→∃v',σ[i]?=some (some v')∧RP K ρ H v v'
theorem RS.le {K:PySem.W.Frag} {ρ ρ':List Addr} {H H':Hp} {σp:PSt} {σ:L2.St} (l:Le ρ H ρ' H') (r:RS K ρ H σp σ):RS K ρ' H' σp σ :=
 ⟨r.1,fun i v e=>by obtain ⟨v',e',q⟩:=r.2 i v e;exact ⟨v',e',q.le l⟩⟩
theorem RS.set {K:PySem.W.Frag} {ρ:List Addr} {H:Hp} {σp:PSt} {σ:L2.St} (r:RS K ρ H σp σ) (i:Nat) {v:PV} {v':V} (q:RP K ρ H v v'):RS K ρ H (σp.set i (some v)) (σ.set i (some v')):=by
 refine ⟨by simp[r.1],fun j u e=>?_⟩
 by_cases hj:j=i
 ·subst hj
  by_cases hl:j<σp.length
  ·rw[List.getElem?_set_self hl] at e
   cases e
   exact ⟨v',List.getElem?_set_self (by rw[r.1];exact hl),q⟩
  ·rw[List.getElem?_eq_none (by simp;omega)] at e;cases e
 ·rw[List.getElem?_set_ne (fun z=>hj z.symm)] at e
  obtain ⟨u',e',q'⟩:=r.2 j u e
  exact ⟨u',by rw[List.getElem?_set_ne (fun z=>hj z.symm)];exact e',q'⟩
def Cov (B:Heap) (fs:List Addr) (h:Heap):Prop:=∀b o,h.get? b=some o→b∉fs→∃ob,B.get? b=some ob
def Fly (l:List Env) (H:Hp) (lim:Heap) (C ea:Addr) (h:Heap):Prop :=
 ∃B t,Heap.FlyingW B l ea (.ref C) (.ref t) h∧(∀b o,H b=some o→∃ob,B.get? b=some ob)∧Cov B (frs l) lim∧H ea=none
structure Bears (X:Cx) (h:Heap):Prop where
 old:∀b o,X.s₀.heap.get? b=some o→b∉X.ex→∃o',h.get? b=some o'
 cell:∀x c,X.env.cells.lookup x=some c→∃o,h.get? c=some o
 pin:∀p∈X.pn,∃o,h.get? p.1=some o
theorem Inv.bears {X:Cx} {pins:List (Addr × Obj)} {σ:L2.St} {H:Hp} {s:Shared} (I:Inv X pins σ H s):Bears X s.heap :=
 ⟨fun b o e n=>I.base.there b o e n,fun x c e=>let ⟨_,o,eo,_⟩:=I.cell x c e;⟨o,eo⟩,fun p hp=>⟨_,(I.pin p (List.mem_append_left _ hp)).1⟩⟩
def XP (X:Cx) (σp:PSt) (ρ:List Addr) (H:Hp) (x:MExc) (h:MH):Prop:=∀(ea C:Addr) (ρ':List Addr) (H':Hp) (σ':L2.St) (s':Shared) (lim:Heap),x.fs=[]→X.mg x.cls=some (.ref C)→Le ρ H ρ' H'→RH X.K X.mg ρ' H' h→RS X.K ρ' H' σp σ' →
 Inv X [] σ' H' s'→Bears X lim→Fly X.stack H' lim C ea s'.heap→X.xe (.ref ea) s'
def XM (X:Cx) (σp:PSt) (ρ:List Addr) (H:Hp) (x:MExc) (h:MH):Prop:=∀(ea C:Addr) (ρ':List Addr) (H':Hp) (σ':L2.St) (s':Shared) (h0:Heap) (args:List Value),x.fs=[]→X.mg x.cls=some (.ref C)→Le ρ H ρ' H'→RH X.K X.mg ρ' H' h→RS X.K ρ' H' σp σ' →
 Inv X [] σ' H' { s' with heap:=h0}→Heap.MadeExcOf h0 s'.heap ea (.ref C) args→X.xe (.ref ea) s'
theorem XP.le {X:Cx} {σp:PSt} {ρ ρ':List Addr} {H H':Hp} {x:MExc} {h:MH} (l:Le ρ H ρ' H') (q:XP X σp ρ H x h):XP X σp ρ' H' x h :=
 fun ea C ρ2 H2 σ2 s2 lim e1 e2 l2=>q ea C ρ2 H2 σ2 s2 lim e1 e2 (l.trans l2)
theorem XM.le {X:Cx} {σp:PSt} {ρ ρ':List Addr} {H H':Hp} {x:MExc} {h:MH} (l:Le ρ H ρ' H') (q:XM X σp ρ H x h):XM X σp ρ' H' x h :=
 fun ea C ρ2 H2 σ2 s2 lim args e1 e2 l2=>q ea C ρ2 H2 σ2 s2 lim args e1 e2 (l.trans l2)
abbrev Rl (α β:Type):=List Addr→Hp→α→β→Prop
def Ful {α β:Type} (X:Cx) (R:Rl α β) (σp:PSt) (ρ:List Addr) (H:Hp) (o:Out α) (Q:β→Hp→Prop):Prop:=match o with
 | .ok v h'=>∀ρ' H' v',Le ρ H ρ' H'→RH X.K X.mg ρ' H' h'→R ρ' H' v v'→Q v' H'
 | .exc x h'=>XP X σp ρ H x h'
 | .bad=>False
def Ful0 {α β:Type} (X:Cx) (R:Rl α β) (ρ:List Addr) (H:Hp) (o:Out α) (Q:β→Hp→Prop):Prop:=match o with
 | .ok v h'=>∀ρ' H' v',Le ρ H ρ' H'→RH X.K X.mg ρ' H' h'→R ρ' H' v v'→Q v' H'
 | _=>False
theorem Ful.zero {α β:Type} {X:Cx} {R:Rl α β} {σp:PSt} {ρ:List Addr} {H:Hp} {o:Out α} {Q:β→Hp→Prop} (f:Ful X R σp ρ H o.ne Q):Ful0 X R ρ H o Q:=by
 cases o with
 | ok v h=>exact f
 | exc x h=>exact f
 | bad=>exact f
theorem Ful.le {α β:Type} {X:Cx} {R:Rl α β} {σp:PSt} {ρ ρ1:List Addr} {H H1:Hp} {o:Out α} {Q:β→Hp→Prop} (l:Le ρ H ρ1 H1) (f:Ful X R σp ρ H o Q):Ful X R σp ρ1 H1 o Q:=by
 cases o with
 | ok v h=>exact fun ρ' H' v' l'=>f ρ' H' v' (l.trans l')
 | exc x h=>exact XP.le (X:=X) (σp:=σp) (x:=x) (h:=h) l f
 | bad=>exact f
theorem Ful.bind {α β γ δ:Type} {X:Cx} {R:Rl α β} {S:Rl γ δ} {σp:PSt} {ρ:List Addr} {H:Hp} {o:Out α} {f:α→MH→Out γ} {Q:δ→Hp→Prop} {Q':β→Hp→Prop} (q:Ful X S σp ρ H (o.bind f) Q)
  (k:∀ρ1 H1 v v' h1,o=.ok v h1→Le ρ H ρ1 H1→RH X.K X.mg ρ1 H1 h1→R ρ1 H1 v v'→Ful X S σp ρ1 H1 (f v h1) Q→Q' v' H1):Ful X R σp ρ H o Q':=by
 cases o with
 | ok v h=>exact fun ρ' H' v' l r w=>k ρ' H' v v' h rfl l r w (Ful.le l q)
 | exc x h=>exact q
 | bad=>exact q
abbrev RV' (X:Cx):Rl PV V:=fun ρ H=>RP X.K ρ H
abbrev RVs' (X:Cx):Rl (List PV) (List V):=fun ρ H=>RPs X.K ρ H
abbrev REq {α:Type}:Rl α α:=fun _ _ x y=>x=y
abbrev Mx (α:Type):=PSt→MH→Out α
def tM {α β:Type} (X:Cx) (R:Rl α β) (m:Mx α):L2.St→Hp→(β→Hp→Prop)→Prop:=fun σ H Q=>∃ρ σp h,RS X.K ρ H σp σ∧RH X.K X.mg ρ H h∧Ful X R σp ρ H (m σp h) Q
def ME (X:Cx) (e:Expr) (m:Mx PV):Prop:=PE X e (tM X (RV' X) m)
def MT (X:Cx) (e:Expr) (m:Mx Bool):Prop:=PT X e (tM X REq m)
def MW (X:Cx) (e:Expr) (m:Mx Bool):Prop:=PW X e (tM X REq m)
def MA (X:Cx) (es:List Expr) (m:Mx (List PV)):Prop:=PA X es (tM X (RVs' X) m)
theorem PE.imp {X:Cx} {e:Expr} {t t':TE} (h:PE X e t) (i:∀σ H Q,t' σ H Q→t σ H Q):PE X e t':=fun pins s σ H Q I q=>h pins s σ H Q I (i σ H Q q)
theorem PT.imp {X:Cx} {e:Expr} {t t':TT} (h:PT X e t) (i:∀σ H Q,t' σ H Q→t σ H Q):PT X e t':=fun pins s σ H Q I q=>h pins s σ H Q I (i σ H Q q)
theorem PW.imp {X:Cx} {e:Expr} {t t':TT} (h:PW X e t) (i:∀σ H Q,t' σ H Q→t σ H Q):PW X e t':=fun whole pins s σ H Q I q=>h whole pins s σ H Q I (i σ H Q q)
theorem PA.imp {X:Cx} {e:List Expr} {t t':TA} (h:PA X e t) (i:∀σ H Q,t' σ H Q→t σ H Q):PA X e t':=fun pos pins s σ H Q I q=>h pos pins s σ H Q I (i σ H Q q)
theorem PS.imp {X:Cx} {e:Stmt} {t t':TS} (h:PS X e t) (i:∀D σ H,t' D σ H→t D σ H):PS X e t':=fun pins s σ H D I q=>h pins s σ H D I (i D σ H q)
theorem PSs.imp {X:Cx} {e:List Stmt} {t t':TS} (h:PSs X e t) (i:∀D σ H,t' D σ H→t D σ H):PSs X e t':=fun pins s σ H D I q=>h pins s σ H D I (i D σ H q)
def FulS (X:Cx) (ρ:List Addr) (H:Hp) (o:SOut) (D:Ends):Prop:=match o with
 | .nx σp h'=>∀ρ' H' σ',Le ρ H ρ' H'→RH X.K X.mg ρ' H' h'→RS X.K ρ' H' σp σ'→D.nx σ' H'
 | .bk σp h'=>∀ρ' H' σ',Le ρ H ρ' H'→RH X.K X.mg ρ' H' h'→RS X.K ρ' H' σp σ'→D.bk σ' H'
 | .ct σp h'=>∀ρ' H' σ',Le ρ H ρ' H'→RH X.K X.mg ρ' H' h'→RS X.K ρ' H' σp σ'→D.ct σ' H'
 | .rt v h'=>∀ρ' H' v',Le ρ H ρ' H'→RH X.K X.mg ρ' H' h'→RP X.K ρ' H' v v'→D.rt v' H'
 | .exc x σp h'=>XP X σp ρ H x h'
 | .rse x σp h'=>XM X σp ρ H x h'
 | .bad=>False
theorem FulS.le {X:Cx} {ρ ρ1:List Addr} {H H1:Hp} {o:SOut} {D:Ends} (l:Le ρ H ρ1 H1) (f:FulS X ρ H o D):FulS X ρ1 H1 o D:=by
 cases o with
 | nx σp h=>exact fun ρ' H' v' l'=>f ρ' H' v' (l.trans l')
 | bk σp h=>exact fun ρ' H' v' l'=>f ρ' H' v' (l.trans l')
 | ct σp h=>exact fun ρ' H' v' l'=>f ρ' H' v' (l.trans l')
 | rt v h=>exact fun ρ' H' v' l'=>f ρ' H' v' (l.trans l')
 | exc x σp h=>exact XP.le (X:=X) (σp:=σp) (x:=x) (h:=h) l f
 | rse x σp h=>exact XM.le (X:=X) (σp:=σp) (x:=x) (h:=h) l f
 | bad=>exact f
abbrev Mst:=PSt→MH→SOut
def tMS (X:Cx) (m:Mst):TS:=fun D σ H=>∃ρ σp h,RS X.K ρ H σp σ∧RH X.K X.mg ρ H h∧FulS X ρ H (m σp h) D
def MS (X:Cx) (st:Stmt) (m:Mst):Prop:=PS X st (tMS X m)
def MSs (X:Cx) (st:List Stmt) (m:Mst):Prop:=PSs X st (tMS X m)
section
variable {X:Cx} {N W G:List Str} {k:Nat}
structure Good (X:Cx) (N W G:List Str) (k:Nat):Prop where
 hN:X.N=N
 nd:N.Nodup
 loc:∀x∈N,Loc X.env.scope x
 fn:∀x∈W,X.fn x=true∨X.env.scope.names.lookup x=some .local
 gl:∀x∈G,Gl X x
 dbg:∀x∈N++G,(x == ("__debug__":Str))=false∧(x == ("__classdict__":Str))=false∧x≠"__name__"
 calm:X.calm=true
 room:Room k X.A
 po:PassesOwn (model X.prog X.w) X.A X.env X.xe
theorem Good.x (g:Good X N W G k) {i:Nat} {x:Str} (hi:N[i]?=some x):X.N[i]?=some x:=by rw[g.hN];exact hi
theorem ay {l:List Str} {i:Nat} {x:Str} (hi:l[i]?=some x):x∈l:=List.mem_of_getElem? hi
def rJ (X:Cx) (g:PV→PV→MH→Out PV):R2:=fun x' y' H Q=>∃ρ h x y,RH X.K X.mg ρ H h∧RP X.K ρ H x x'∧RP X.K ρ H y y'∧Ful0 X (RV' X) ρ H (g x y h) Q
abbrev OpJ (X:Cx) (f:Value→Value→Sem Value) (g:PV→PV→MH→Out PV):Prop:=OpR X f (rJ X g)
def uJ (X:Cx) (g:PV→MH→Out PV):V→Hp→VK→Prop:=fun x' H Q=>∃ρ h x,RH X.K X.mg ρ H h∧RP X.K ρ H x x'∧Ful0 X (RV' X) ρ H (g x h) Q
abbrev UnJ (X:Cx) (f:Value→Sem Value) (g:PV→MH→Out PV):Prop:=UnR X f (uJ X g)
def cJ (X:Cx) (g:List PV→MH→Out PV):List V→Hp→VK→Prop:=fun xs' H Q=>∃ρ h xs,RH X.K X.mg ρ H h∧RPs X.K ρ H xs xs'∧Ful0 X (RV' X) ρ H (g xs h) Q
abbrev ca (X:Cx) (f:Value) (g:List PV→MH→Out PV):Prop:=bH X f (cJ X g)
def mVar (i:Nat):Mx PV:=fun σ h=>match σ[i]? with
 | some (some v)=>.ok v h
 | _=>.bad
def mC (v:PV):Mx PV:=fun _ h=>.ok v h
theorem ac (g:Good X N W G k) (i:Nat) {x:Str} {pos:Pos} (hi:N[i]?=some x):ME X (.Name x pos) (mVar i):=by
 have d:=g.dbg x (List.mem_append_left _ (ay hi))
 have hv:Vis X.env.scope x:=by
  rcases g.loc x (ay hi) with q|q
  ·exact .inl q
  ·exact .inr (.inl q)
 refine PE.imp (pe_var (g.x hi) hv d.1 d.2.1) fun σ H Q ⟨ρ,σp,h,rs,rh,f⟩=>?_
 unfold mVar at f
 cases e:σp[i]? with
 | none=>rw[e] at f;exact f.elim
 | some o =>
  rw[e] at f
  cases o with
  | none=>exact f.elim
  | some v =>
   obtain ⟨v',e',r⟩:=rs.2 i v e
   exact ⟨v',e',f ρ H v' (Le.refl _ _) rh r⟩
theorem ad {i:Int} {j:Nat} {pos:Pos}:ME X (.Constant (.int i) j pos) (mC (.int i)):=PE.imp pe_int fun _ H _ ⟨ρ,_,_,_,rh,f⟩=>f ρ H _ (Le.refl _ _) rh (.int i)
theorem ft {i:Str} {j:Nat} {pos:Pos}:ME X (.Constant (.str i) j pos) (mC (.str i)):=PE.imp pe_str fun _ H _ ⟨ρ,_,_,_,rh,f⟩=>f ρ H _ (Le.refl _ _) rh (.str i)
theorem bh {i:Bool} {j:Nat} {pos:Pos}:ME X (.Constant (.bool i) j pos) (mC (.bl i)):=PE.imp pe_bl fun _ H _ ⟨ρ,_,_,_,rh,f⟩=>f ρ H _ (Le.refl _ _) rh (.bl i)
theorem dW {j:Nat} {pos:Pos}:ME X (.Constant .none j pos) (mC .non):=PE.imp pe_non fun _ H _ ⟨ρ,_,_,_,rh,f⟩=>f ρ H _ (Le.refl _ _) rh .non
def mBin (f:PV→PV→MH→Out PV) (ma mb:Mx PV):Mx PV:=fun σ h=>(ma σ h).bind fun x h1=>(mb σ h1).bind fun y h2=>(f x y h2).ne
def mUn (f:PV→MH→Out PV) (ma:Mx PV):Mx PV:=fun σ h=>(ma σ h).bind fun x h1=>(f x h1).ne
theorem dN {f:PV→PV→MH→Out PV} {ma mb:Mx PV} {σ:L2.St} {H:Hp} {Q:VK} (q:tM X (RV' X) (mBin f ma mb) σ H Q):tOp (rJ X f) (tM X (RV' X) ma) (tM X (RV' X) mb) σ H Q:=by
 obtain ⟨ρ,σp,h,rs,rh,q⟩:=q
 refine ⟨ρ,σp,h,rs,rh,Ful.bind q fun ρ1 H1 x x' h1 _ l1 rh1 rx q1=>?_⟩
 refine ⟨ρ1,σp,h1,rs.le l1,rh1,Ful.bind q1 fun ρ2 H2 y y' h2 _ l2 rh2 ry q2=>?_⟩
 exact ⟨ρ2,h2,x,y,rh2,rx.le l2,ry,q2.zero⟩
theorem ag {op:Operator} {f:PV→PV→MH→Out PV} {a b:Expr} {ma mb:Mx PV} {pos:Pos} (ho:OpJ X (binaryOp op) f) (ha:ME X a ma) (hb:ME X b mb):ME X (.BinOp a op b pos) (mBin f ma mb) :=
 PE.imp (pe_op ho ha hb) fun _ _ _ q=>dN q
theorem dC {op:UnaryOp} {f:PV→MH→Out PV} {a:Expr} {ma:Mx PV} {pos:Pos} (ho:UnJ X (unaryOp op) f) (ha:ME X a ma):ME X (.UnaryOp op a pos) (mUn f ma) :=
 PE.imp (pe_un ho ha) fun _ _ _ ⟨ρ,σp,h,rs,rh,q⟩=>⟨ρ,σp,h,rs,rh,Ful.bind q fun ρ1 H1 x x' h1 _ l1 rh1 rx q1=>⟨ρ1,h1,x,rh1,rx,q1.zero⟩⟩
theorem bA {op:CmpOp} {f:PV→PV→MH→Out PV} {a b:Expr} {ma mb:Mx PV} {pos:Pos} (ho:OpJ X (compareOp op) f) (ha:ME X a ma) (hb:ME X b mb) (hm:behindInMarks op b=false):ME X (.Compare a [op] [b] pos) (mBin f ma mb) :=
 PE.imp (pe_cmpR ho ha hb hm) fun _ _ _ q=>dN q
def mB (m:Mx PV):Mx Bool:=fun σ h=>(m σ h).bind fun v h1=>match v with
 | .bl b=>.ok b h1
 | _=>.bad
theorem tM_B {m:Mx PV} {σ:L2.St} {H:Hp} {Q:Bool→Hp→Prop} (q:tM X REq (mB m) σ H Q):tM X (RV' X) m σ H fun x H1=>∃c,x=.bl c∧Q c H1:=by
 obtain ⟨ρ,σp,h,rs,rh,q⟩:=q
 refine ⟨ρ,σp,h,rs,rh,Ful.bind q fun ρ1 H1 x x' h1 _ l1 rh1 rx q1=>?_⟩
 cases rx with
 | bl b=>exact ⟨b,rfl,q1 ρ1 H1 b (Le.refl _ _) rh1 rfl⟩
 | _=>exact q1.elim
theorem aV {op:CmpOp} {f:PV→PV→MH→Out PV} {a b:Expr} {ma mb:Mx PV} {pos:Pos} (ho:OpJ X (compareOp op) f) (ha:ME X a ma) (hb:ME X b mb) (hm:behindInMarks op b=false):MT X (.Compare a [op] [b] pos) (mB (mBin f ma mb)) :=
 PT.imp (pt_cmpR ho ha hb hm) fun σ H Q q=>by
  obtain ⟨ρ,σp,h,rs,rh,q⟩:=tM_B q
  exact dN (Q:=fun x H'=>∃k,x=.bl k∧Q k H') ⟨ρ,σp,h,rs,rh,q⟩
theorem bS {e:Expr} {m:Mx PV} (h:ME X e m) (he:∀whole,isTrue e X.env whole=(do let v ←whole;standAt e.pos;holding [v] (truthy v)):=by intro _;rfl):MT X e (mB m) :=
 PT.imp (pt_val h he) fun _ _ _ q=>tM_B q
def mNot (m:Mx Bool):Mx Bool:=fun σ h=>(m σ h).bind fun b h1=>.ok (!b) h1
theorem bZ {e:Expr} {m:Mx Bool} {pos:Pos} (h:MT X e m):MT X (.UnaryOp .Not e pos) (mNot m) :=
 PT.imp (pt_not h) fun _ _ _ ⟨ρ,σp,h,rs,rh,q⟩=>⟨ρ,σp,h,rs,rh,Ful.bind q fun ρ1 H1 x x' h1 _ l1 rh1 rx q1=>by
  cases rx;exact q1 ρ1 H1 _ (Le.refl _ _) rh1 rfl⟩
def mOr (a b:Mx Bool):Mx Bool:=fun σ h=>(a σ h).bind fun x h1=>if x=true then .ok true h1 else b σ h1
section
variable {a b:Expr} {rest:List Expr} {ma mb:Mx Bool} {pos:Pos}
theorem cj (ha:MT X a ma):MW X (.BoolOp .Or [a] pos) ma:=pw_or1 ha
theorem cv (ha:MT X a ma) (hb:MW X (.BoolOp .Or (b::rest) pos) mb):MW X (.BoolOp .Or (a::b::rest) pos) (mOr ma mb) :=
 PW.imp (pw_or ha hb) fun σ H Q ⟨ρ,σp,h,rs,rh,q⟩=>⟨ρ,σp,h,rs,rh,Ful.bind q fun ρ1 H1 x x' h1 _ l1 rh1 rx q1=>by
  cases rx
  cases x with
  | true=>rw[if_pos rfl] at q1 ⊢;exact q1 ρ1 H1 _ (Le.refl _ _) rh1 rfl
  | false=>rw[if_neg Bool.false_ne_true] at q1 ⊢;exact ⟨ρ1,σp,h1,rs.le l1,rh1,q1⟩⟩
theorem MW.mt {e:Expr} {m:Mx Bool} (h:MW X e m):MT X e m:=PW.pt h
end
def bV (a b:Mx PV):Mx PV:=fun σ h=>(a σ h).bind fun x h1=>match x with
 | .bl c=>if c=true then b σ h1 else .ok (.bl false) h1
 | _=>.bad
def eW (a:Mx PV):Mx PV:=fun σ h=>(a σ h).bind fun x h1=>match x with
 | .bl c=>.ok (.bl (!c)) h1
 | _=>.bad
section
variable {a b:Expr} {rest:List Expr} {ma mb:Mx PV} {pos:Pos}
theorem cn {op:BoolOp} (ha:ME X a ma):ME X (.BoolOp op [a] pos) ma:=pe_one ha
theorem bX (ha:ME X a ma) (hb:ME X (.BoolOp .And (b::rest) pos) mb):ME X (.BoolOp .And (a::b::rest) pos) (bV ma mb) :=
 PE.imp (pe_and ha hb) fun σ H Q ⟨ρ,σp,h,rs,rh,q⟩=>⟨ρ,σp,h,rs,rh,Ful.bind q fun ρ1 H1 x x' h1 _ l1 rh1 rx q1=>by
  cases rx with
  | bl c =>
   refine ⟨c,rfl,?_⟩
   dsimp only at q1
   cases c with
   | true=>rw[if_pos rfl] at q1 ⊢;exact ⟨ρ1,σp,h1,rs.le l1,rh1,q1⟩
   | false=>rw[if_neg Bool.false_ne_true] at q1 ⊢;exact q1 ρ1 H1 _ (Le.refl _ _) rh1 (.bl false)
  | _=>exact q1.elim⟩
theorem me_not (ha:ME X a ma):ME X (.UnaryOp .Not a pos) (eW ma) :=
 PE.imp (pe_not ha) fun σ H Q ⟨ρ,σp,h,rs,rh,q⟩=>⟨ρ,σp,h,rs,rh,Ful.bind q fun ρ1 H1 x x' h1 _ l1 rh1 rx q1=>by
  cases rx with
  | bl c=>exact ⟨c,rfl,q1 ρ1 H1 _ (Le.refl _ _) rh1 (.bl _)⟩
  | _=>exact q1.elim⟩
end
def mNil:Mx (List PV):=fun _ h=>.ok [] h
def aa (a:Mx PV) (r:Mx (List PV)):Mx (List PV):=fun σ h=>(a σ h).bind fun x h1=>(r σ h1).bind fun xs h2=>.ok (x::xs) h2
theorem ae:MA X [] mNil:=PA.imp fq fun σ H Q ⟨ρ,σp,h,rs,rh,q⟩=>q ρ H _ (Le.refl _ _) rh .nil
theorem ab {e:Expr} {es:List Expr} {m:Mx PV} {ms:Mx (List PV)} (ha:ME X e m) (hr:MA X es ms) (hs:starEach (e::es) X.env=(false,eval e X.env)::starEach es X.env:=by rfl):MA X (e::es) (aa m ms) :=
 PA.imp (de ha hr hs) fun σ H Q ⟨ρ,σp,h,rs,rh,q⟩=>⟨ρ,σp,h,rs,rh,Ful.bind q fun ρ1 H1 x x' h1 _ l1 rh1 rx q1 =>
  ⟨ρ1,σp,h1,rs.le l1,rh1,Ful.bind q1 fun ρ2 H2 y y' h2 _ l2 rh2 ry q2=>q2 ρ2 H2 _ (Le.refl _ _) rh2 (.cons (rx.le l2) ry)⟩⟩
noncomputable def newL (xs:List PV) (h:MH):Out PV:=if xs.length≤sizeLine then .ok (.loc h.length) (h++[.lst xs]) else .bad
noncomputable def newT (xs:List PV) (h:MH):Out PV:=if xs.length≤sizeLine then .ok (.tup xs) h else .bad
theorem cW {ρ:List Addr} {H:Hp} {h:MH} {xs:List PV} {ys:List V} {Q:VK} (rh:RH X.K X.mg ρ H h) (rs:RPs X.K ρ H xs ys) (f:Ful0 X (RV' X) ρ H (newL xs h) Q):ys.length≤sizeLine∧∀p,H p=none→Q (.ref p) (upd H p (.lst ys)):=by
 unfold newL at f
 split at f
 ·rename_i hl
  refine ⟨by rw[←rs.length];exact hl,fun p hp=>?_⟩
  obtain ⟨r1,l1⟩:=rh.new hp (o:=.lst xs) (ho:=.lst ys) ⟨ys,rfl,rs⟩
  refine f _ _ _ l1 r1 (.loc ?_)
  rw[←rh.len];simp
 ·exact f.elim
theorem eE {ρ:List Addr} {H:Hp} {h:MH} {xs:List PV} {ys:List V} {Q:VK} (rh:RH X.K X.mg ρ H h) (rs:RPs X.K ρ H xs ys) (f:Ful0 X (RV' X) ρ H (newT xs h) Q):ys.length≤sizeLine∧∀p,H p=none→Q (.ref p) (upd H p (.tup ys)):=by
 unfold newT at f
 split at f
 ·rename_i hl
  refine ⟨by rw[←rs.length];exact hl,fun p hp=>?_⟩
  obtain ⟨r1,l1⟩:=rh.tup hp ys
  exact f _ _ _ l1 r1 (.tup (.inl (.inl bO)) (rs.le l1))
 ·exact f.elim
theorem newL_f {σp:PSt} {ρ:List Addr} {H:Hp} {h:MH} {xs:List PV} {Q:VK} (f:Ful X (RV' X) σp ρ H (newL xs h) Q):Ful0 X (RV' X) ρ H (newL xs h) Q:=by
 unfold newL at f ⊢
 split at f
 ·rw[if_pos (by assumption)];exact f
 ·exact f.elim
theorem newT_f {σp:PSt} {ρ:List Addr} {H:Hp} {h:MH} {xs:List PV} {Q:VK} (f:Ful X (RV' X) σp ρ H (newT xs h) Q):Ful0 X (RV' X) ρ H (newT xs h) Q:=by
 unfold newT at f ⊢
 split at f
 ·rw[if_pos (by assumption)];exact f
 ·exact f.elim
noncomputable def mLst (m:Mx (List PV)):Mx PV:=fun σ h=>(m σ h).bind newL
noncomputable def mTup (m:Mx (List PV)):Mx PV:=fun σ h=>(m σ h).bind newT
theorem aS {es:List Expr} {ms:Mx (List PV)} {pos:Pos} (h:MA X es ms):ME X (.List es pos) (mLst ms) :=
 PE.imp (pe_lst h) fun σ H Q ⟨ρ,σp,h,rs,rh,q⟩=>⟨ρ,σp,h,rs,rh,Ful.bind q fun ρ1 H1 x x' h1 _ l1 rh1 rx q1=>cW rh1 rx (newL_f q1)⟩
theorem aj {es:List Expr} {ms:Mx (List PV)} {j:Nat} {pos:Pos} (h:MA X es ms):ME X (.Tuple es j pos) (mTup ms) :=
 PE.imp (pe_tup h) fun σ H Q ⟨ρ,σp,h,rs,rh,q⟩=>⟨ρ,σp,h,rs,rh,Ful.bind q fun ρ1 H1 x x' h1 _ l1 rh1 rx q1=>eE rh1 rx (newT_f q1)⟩
def SOut.then (o:SOut) (k:Mst):SOut:=match o with
 | .nx σ h=>k σ h
 | o=>o
def mSeq (a b:Mst):Mst:=fun σ h=>(a σ h).then b
def mSkip:Mst:=fun σ h=>.nx σ h
theorem aY:MSs X [] mSkip:=PSs.imp pss_nil fun D σ H ⟨ρ,σp,h,rs,rh,q⟩=>q ρ H σ (Le.refl _ _) rh rs
theorem ak {st:Stmt} {m:Mst} (h:MS X st m):MSs X [st] m:=pss_one h
theorem FulS.then {ρ:List Addr} {H:Hp} {o:SOut} {k:Mst} {D:Ends} (q:FulS X ρ H (o.then k) D):FulS X ρ H o { D with nx:=fun σ H=>tMS X k D σ H}:=by
 cases o with
 | nx σp h=>exact fun ρ' H' σ' l r s=>⟨ρ',σp,h,s,r,FulS.le l q⟩
 | _=>exact q
theorem ai {st:Stmt} {rest:List Stmt} {m u:Mst} (h1:MS X st m) (h2:MSs X rest u):MSs X (st::rest) (mSeq m u) :=
 PSs.imp (gi h1 h2) fun D σ H ⟨ρ,σp,h,rs,rh,q⟩=>⟨ρ,σp,h,rs,rh,FulS.then q⟩
def mRet (m:Mx PV):Mst:=fun σ h=>match m σ h with
 | .ok v h'=>.rt v h'
 | .exc x h'=>.exc x σ h'
 | .bad=>.bad
theorem av {e:Expr} {m:Mx PV} {pos:Pos} (he:ME X e m):MS X (.Return (some e) pos) (mRet m) :=
 PS.imp (ps_ret he) fun D σ H ⟨ρ,σp,h,rs,rh,q⟩=>⟨ρ,σp,h,rs,rh,by
  unfold mRet at q
  cases e:m σp h with
  | ok v h'=>rw[e] at q;exact q
  | exc x h'=>rw[e] at q;exact q
  | bad=>rw[e] at q;exact q⟩
def mEx {α:Type} (m:Mx α) (k:α→Mst):Mst:=fun σ h=>match m σ h with
 | .ok v h'=>k v σ h'
 | .exc x h'=>.exc x σ h'
 | .bad=>.bad
theorem FulS.ex {α β:Type} {R:Rl α β} {m:Mx α} {k:α→Mst} {ρ:List Addr} {H:Hp} {σp:PSt} {h:MH} {D:Ends} {Q:β→Hp→Prop} (q:FulS X ρ H (mEx m k σp h) D)
  (w:∀ρ1 H1 v v' h1,Le ρ H ρ1 H1→RH X.K X.mg ρ1 H1 h1→R ρ1 H1 v v'→FulS X ρ1 H1 (k v σp h1) D→Q v' H1):Ful X R σp ρ H (m σp h) Q:=by
 unfold mEx at q
 cases e:m σp h with
 | ok v h'=>rw[e] at q;exact fun ρ1 H1 v' l r z=>w ρ1 H1 v v' h' l r z (FulS.le l q)
 | exc x h'=>rw[e] at q;exact q
 | bad=>rw[e] at q;exact q
def mIf (c:Mx Bool) (a b:Mst):Mst:=mEx c fun x=>if x=true then a else b
theorem br {c:Expr} {a b:List Stmt} {mc:Mx Bool} {ma mb:Mst} {pos:Pos} (hc:MT X c mc) (ha:MSs X a ma) (hb:MSs X b mb):MS X (.If c a b pos) (mIf mc ma mb) :=
 PS.imp (ps_if hc ha hb) fun D σ H ⟨ρ,σp,h,rs,rh,q⟩=>⟨ρ,σp,h,rs,rh,FulS.ex q fun ρ1 H1 v v' h1 l r z w=>by
  cases z
  cases v with
  | true=>rw[if_pos rfl];exact ⟨ρ1,σp,h1,rs.le l,r,w⟩
  | false=>rw[if_neg Bool.false_ne_true];exact ⟨ρ1,σp,h1,rs.le l,r,w⟩⟩
def mSet (i:Nat) (m:Mx PV):Mst:=mEx m fun v σ h=>.nx (σ.set i (some v)) h
theorem au (g:Good X N W G k) (i:Nat) {x:Str} {e:Expr} {m:Mx PV} {pos pos':Pos} (hi:N[i]?=some x) (hw:W[i]?=some x) (he:ME X e m) (hs:swapsWith e (some (.Name x pos')) pos.line X.env=pure false:=by rfl) :
  MS X (.Assign [.Name x pos'] e pos) (mSet i m):=by
 refine PS.imp (ps_set (X:=X) (i:=i) (by rw[g.hN];exact g.nd) (g.x hi) (g.loc x (ay hi)) he hs (g.fn x (ay hw))) fun D σ H ⟨ρ,σp,h,rs,rh,q⟩=>?_
 exact ⟨ρ,σp,h,rs,rh,FulS.ex q fun ρ1 H1 v v' h1 l r z w=>w ρ1 H1 _ (Le.refl _ _) r ((rs.le l).set i z)⟩
end
end MM
namespace MM
open PySem PySem.Spec PyProof.Rows L2
noncomputable local instance (priority:=1) cdec (p:Prop):Decidable p:=Classical.propDecidable p
section
variable {X:Cx} {N W G:List Str} {k:Nat}
abbrev Mg:=PV→Mst
def FulG (X:Cx) (ρ:List Addr) (H:Hp) (o:SOut) (Q:L2.St→Hp→Prop):Prop:=match o with
 | .nx σp h'=>∀ρ' H' σ',Le ρ H ρ' H'→RH X.K X.mg ρ' H' h'→RS X.K ρ' H' σp σ'→Q σ' H'
 | .exc x σp h'=>XP X σp ρ H x h'
 | _=>False
theorem FulG.le {ρ ρ1:List Addr} {H H1:Hp} {o:SOut} {Q:L2.St→Hp→Prop} (l:Le ρ H ρ1 H1) (f:FulG X ρ H o Q):FulG X ρ1 H1 o Q:=by
 cases o with
 | nx σp h=>exact fun ρ' H' v' l'=>f ρ' H' v' (l.trans l')
 | exc x σp h=>exact XP.le (X:=X) (σp:=σp) (x:=x) (h:=h) l f
 | _=>exact f
def tG (X:Cx) (g:Mg):TG:=fun v' σ H Q=>∃ρ σp h v,RS X.K ρ H σp σ∧RH X.K X.mg ρ H h∧RP X.K ρ H v v'∧FulG X ρ H (g v σp h) Q
def MG (X:Cx) (tg:Expr) (g:Mg):Prop:=PG X tg (tG X g)
theorem PG.imp {e:Expr} {t t':TG} (h:PG X e t) (i:∀v σ H Q,t' v σ H Q→t v σ H Q):PG X e t':=fun pins s σ H v u Q I r q=>h pins s σ H v u Q I r (i v σ H Q q)
def gNm (i:Nat):Mg:=fun v σ h=>.nx (σ.set i (some v)) h
theorem bm (g:Good X N W G k) (i:Nat) {x:Str} {pos:Pos} (hi:N[i]?=some x) (hw:W[i]?=some x):MG X (.Name x pos) (gNm i) :=
 PG.imp (pg_name (by rw[g.hN];exact g.nd) (g.x hi) (g.loc x (ay hi)) (g.fn x (ay hw))) fun v' σ H Q ⟨ρ,σp,h,v,rs,rh,rv,q⟩=>q ρ H _ (Le.refl _ _) rh (rs.set i rv)
abbrev Mgs:=List PV→Mst
def tGs (X:Cx) (g:Mgs):TGs:=fun v' σ H Q=>∃ρ σp h v,RS X.K ρ H σp σ∧RH X.K X.mg ρ H h∧RPs X.K ρ H v v'∧FulG X ρ H (g v σp h) Q
def MGs (X:Cx) (tg:List Expr) (g:Mgs):Prop:=PGs X tg (tGs X g)
theorem PGs.imp {e:List Expr} {t t':TGs} (h:PGs X e t) (i:∀v σ H Q,t' v σ H Q→t v σ H Q):PGs X e t':=fun pins s σ H v u Q I r q=>h pins s σ H v u Q I r (i v σ H Q q)
def gNl:Mgs:=fun vs σ h=>match vs with
 | []=>.nx σ h
 | _=>.bad
def gCn (a:Mg) (r:Mgs):Mgs:=fun vs σ h=>match vs with
 | v::vr=>(a v σ h).then (r vr)
 | []=>.bad
theorem eN:MGs X [] gNl:=PGs.imp pgs_nil fun v' σ H Q ⟨ρ,σp,h,v,rs,rh,rv,q⟩=>by
 cases rv with
 | nil=>exact ⟨rfl,q ρ H σ (Le.refl _ _) rh rs⟩
 | cons _ _=>exact q.elim
theorem b8 {e:Expr} {es:List Expr} {a:Mg} {r:Mgs} (h1:MG X e a) (h2:MGs X es r)
  (hs:(assignEach (e::es) X.env).map (·.2)=assign e X.env::(assignEach es X.env).map (·.2):=by rfl):MGs X (e::es) (gCn a r) :=
 PGs.imp (gh h1 h2 hs) fun v' σ H Q ⟨ρ,σp,h,v,rs,rh,rv,q⟩=>by
  cases rv with
  | nil=>exact q.elim
  | @cons x y xs ys rx rr =>
   refine ⟨_,_,rfl,ρ,σp,h,x,rs,rh,rx,?_⟩
   dsimp only[gCn] at q
   cases e:a x σp h with
   | nx σ1 h1=>rw[e] at q;exact fun ρ' H' σ' l r1 s1=>⟨ρ',σ1,h1,xs,s1,r1,rr.le l,FulG.le l q⟩
   | exc x1 σ1 h1=>rw[e] at q;exact q
   | _=>rw[e] at q;exact q
def gTp (r:Mgs) (n:Nat):Mg:=fun v σ h=>match v with
 | .tup xs=>if xs.length=n then r xs σ h else .bad
 | _=>.bad
theorem fD (g:Good X N W G k) {es:List Expr} {j:Nat} {r:Mgs} {n:Nat} {pos:Pos} (h:MGs X es r) (hn:(assignEach es X.env).length=n:=by rfl) (hst:(assignEach es X.env).findIdx? (·.1)=none:=by rfl) :
  MG X (.Tuple es j pos) (gTp r n) :=
 PG.imp (pg_tup g.calm h hn hst) fun v' σ H Q ⟨ρ,σp,h,v,rs,rh,rv,q⟩=>by
  cases rv with
  | tup s rr =>
   dsimp only[gTp] at q
   split at q
   ·rename_i hl
    exact ⟨_,_,rfl,s,by rw[←rr.length];exact hl,ρ,σp,h,_,rs,rh,rr,q⟩
   ·exact q.elim
  | _=>exact q.elim
def mAsg (m:Mx PV) (g:Mg):Mst:=mEx m fun v σ h=>match g v σ h with
 | .nx σ2 h2=>.nx σ2 h2
 | .exc x σ2 h2=>.exc x σ2 h2
 | _=>.bad
theorem cK {tg e:Expr} {m:Mx PV} {g:Mg} {pos:Pos} (he:ME X e m) (hg:MG X tg g) (hs:swapsWithSole [tg] e pos.line X.env=pure false:=by rfl) (hw:swappedStores [tg] e X.env=pure none:=by rfl)
  (h1:(assignEach [tg] X.env).map (·.2)=[assign tg X.env]:=by rfl):MS X (.Assign [tg] e pos) (mAsg m g) :=
 PS.imp (ps_asg he hg hs hw h1) fun D σ H ⟨ρ,σp,h,rs,rh,q⟩=>⟨ρ,σp,h,rs,rh,FulS.ex q fun ρ1 H1 v v' h1 l r z w=>⟨ρ1,σp,h1,v,rs.le l,r,z,by
  cases e:g v σp h1 with
  | nx σ2 h2=>rw[e] at w;exact w
  | exc x σ2 h2=>rw[e] at w;exact w
  | _=>rw[e] at w;exact w⟩⟩
def mPar (i j:Nat) (m:Mx (List PV)):Mst:=mEx m fun vs σ h=>match vs with
 | [v,w]=>.nx ((σ.set i (some v)).set j (some w)) h
 | _=>.bad
theorem dO (g:Good X N W G k) (i j:Nat) {x y:Str} {a b:Expr} {m:Mx (List PV)} {px py pt pos:Pos} {kt k2:Nat} {pt2:Pos} (hi:N[i]?=some x) (hj:N[j]?=some y) (hij:i≠j) (ha:MA X [a,b] m)
  (hx:X.env.scope.names.lookup x=some .local) (hy:X.env.scope.names.lookup y=some .local)
  (hw:swappedStores [.Tuple [.Name x px,.Name y py] kt pt] (.Tuple [a,b] k2 pt2) X.env=pure (some [x,y]))
  (hs:swapsWithSole [.Tuple [.Name x px,.Name y py] kt pt] (.Tuple [a,b] k2 pt2) pos.line X.env=pure false:=by rfl) :
  MS X (.Assign [.Tuple [.Name x px,.Name y py] kt pt] (.Tuple [a,b] k2 pt2) pos) (mPar i j m) :=
 PS.imp (ps_par g.calm (by rw[g.hN];exact g.nd) (g.x hi) (g.x hj) hij hx hy ha hw hs) fun D σ H ⟨ρ,σp,h,rs,rh,q⟩=>⟨ρ,σp,h,rs,rh,FulS.ex q fun ρ1 H1 v v' h1 l r z w=>by
  cases z with
  | nil=>exact w.elim
  | cons z1 z =>
   cases z with
   | nil=>exact w.elim
   | cons z2 z =>
    cases z with
    | nil=>exact ⟨_,_,rfl,w ρ1 H1 _ (Le.refl _ _) r (((rs.le l).set i z1).set j z2)⟩
    | cons _ _=>exact w.elim⟩
noncomputable def setL (o i v:PV) (h:MH):Option MH:=match o,i with
 | .loc n,.int j=>(match h[n]? with
  | some (.lst xs)=>(ixN xs.length j).map fun p=>h.set n (.lst (xs.set p v))
  | _=>none)
 | _,_=>none
noncomputable def gSb (mo mi:Mx PV):Mg:=fun v=>mEx mo fun o=>mEx mi fun i σ h=>match setL o i v h with
 | some h2=>.nx σ h2
 | none=>.bad
theorem fR {o i:Expr} {mo mi:Mx PV} {pos:Pos} (ho:ME X o mo) (hi:ME X i mi)
  (ha:∀v,assign (.Subscript o i pos) X.env v=(do
   let ov ←holding [v] (eval o X.env)
   let iv ←holding [v,ov] (eval i X.env)
   standAt pos
   holding [v,ov,iv] (setItem ov iv v)
   release [v,ov,iv] []):=by intro _;rfl):MG X (.Subscript o i pos) (gSb mo mi) :=
 PG.imp (pg_sub ho hi fW ha) fun v' σ H Q ⟨ρ,σp,h,v,rs,rh,rv,q⟩=>by
  refine ⟨ρ,σp,h,rs,rh,?_⟩
  unfold gSb mEx at q
  cases e:mo σp h with
  | exc x h1=>rw[e] at q;exact q
  | bad=>rw[e] at q;exact q
  | ok ov h1 =>
   rw[e] at q
   intro ρ1 H1 o' l1 rh1 ro
   refine ⟨ρ1,σp,h1,rs.le l1,rh1,?_⟩
   dsimp only at q
   cases e2:mi σp h1 with
   | exc x h2=>rw[e2] at q;exact XP.le (X:=X) (σp:=σp) (x:=x) (h:=h2) l1 q
   | bad=>rw[e2] at q;exact q
   | ok iv h2 =>
    rw[e2] at q
    intro ρ2 H2 i' l2 rh2 ri
    dsimp only at q
    have ro2:=ro.le l2
    have rv2:=(rv.le l1).le l2
    unfold setL at q
    cases ro2 with
    | @loc n a en =>
     cases ri with
     | int j =>
      dsimp only at q
      obtain ⟨ob,eo,rob⟩:=rh2.obj en
      rw[eo] at q
      cases ob with
      | dic kvs=>exact q.elim
      | exc x=>exact q.elim
      | lst xs =>
       obtain ⟨ys,ey,ry⟩:=rob
       dsimp only at q
       cases ep:ixN xs.length j with
       | none=>rw[ep] at q;exact q.elim
       | some p =>
        rw[ep] at q
        refine ⟨a,ys,j,p,rfl,rfl,ey,by rw[←ry.length];exact ep,?_⟩
        obtain ⟨r3,l3⟩:=rh2.put en (o:=.lst (xs.set p v)) (ho:=.lst (ys.set p v')) ⟨_,rfl,RPs.set rv2 p ry⟩
        exact q ρ2 _ σ (l1.trans (l2.trans l3)) r3 (rs.le (l1.trans (l2.trans l3)))
     | _=>exact q.elim
    | _=>exact q.elim
structure MIt where
 xs:List PV
 gd:List (Nat × List PV):=[]
def MIt.ok (it:MIt) (h:MH):Prop:=∀p∈it.gd,h[p.1]?=some (.lst p.2)
def JRel (X:Cx):Rl MIt It:=fun ρ0 H0 it J=>∀ρ H h (i:Nat),Le ρ0 H0 ρ H→RH X.K X.mg ρ H h→it.ok h →
 (i<it.xs.length→J.go i H∧∀x' H',J.yld i H x' H'→∃ρ' x,Le ρ H ρ' H'∧RH X.K X.mg ρ' H' h∧it.xs[i]?=some x∧RP X.K ρ' H' x x')∧(it.xs.length≤i→J.stop i H)
def MI (X:Cx) (tg iter:Expr) (m:Mx MIt):Prop:=PI X tg iter (tM X (JRel X) m)
theorem PI.imp {tg e:Expr} {t t':TI} (h:PI X tg e t) (i:∀σ H Q,t' σ H Q→t σ H Q):PI X tg e t':=fun pins s σ H Q I q=>h pins s σ H Q I (i σ H Q q)
noncomputable def mGo (it:MIt) (g:Mg) (b:Mst):List PV→Mst
 | []=>fun σ h=>if it.ok h then .nx σ h else .bad
 | x::r=>fun σ h=>if it.ok h then (match g x σ h with
   | .nx σ1 h1=>(match b σ1 h1 with
    | .nx σ2 h2=>mGo it g b r σ2 h2
    | .ct σ2 h2=>mGo it g b r σ2 h2
    | .bk σ2 h2=>.nx σ2 h2
    | .rt v h2=>.rt v h2
    | .exc e σ2 h2=>.exc e σ2 h2
    | .rse e σ2 h2=>.rse e σ2 h2
    | .bad=>.bad)
   | .exc e σ1 h1=>.exc e σ1 h1
   | _=>.bad) else .bad
noncomputable def mFor (mi:Mx MIt) (g:Mg) (b:Mst):Mst:=mEx mi fun it=>mGo it g b it.xs
theorem cV (gd:Good X N W G k) {tg iter:Expr} {body:List Stmt} {mi:Mx MIt} {g:Mg} {mb:Mst} {pos:Pos} (hi:MI X tg iter mi) (hg:MG X tg g) (hb:MSs X body mb)
  (hs:∀x,foldedSetIterable iter X.env x=pure x:=by intro _;rfl):MS X (.For tg iter body [] pos) (mFor mi g mb):=by
 refine PS.imp (ps_for gd.po gd.calm hi hg hb hs) fun D σ H ⟨ρ,σp,h,rs,rh,q⟩=>⟨ρ,σp,h,rs,rh,FulS.ex q fun ρ1 H1 it J h1 l1 rh1 jr w=>?_⟩
 refine ⟨fun i m σ H=>m=it.xs.length - i∧i≤it.xs.length∧∃ρ σp h,Le ρ1 H1 ρ H∧RS X.K ρ H σp σ∧RH X.K X.mg ρ H h∧FulS X ρ H (mGo it g mb (it.xs.drop i) σp h) D,⟨_,rfl,Nat.zero_le _,ρ1,σp,h1,Le.refl _ _,rs.le l1,rh1,w⟩,?_⟩
 rintro i m σ2 H2 ⟨rfl,hi,ρ2,σp2,h2,l2,rs2,rh2,w2⟩
 by_cases hlt:i<it.xs.length
 ·have ed:it.xs.drop i=it.xs[i]::it.xs.drop (i+1):=List.drop_eq_getElem_cons hlt
  rw[ed] at w2
  unfold mGo at w2
  split at w2
  ·rename_i hok
   obtain ⟨j1,j2⟩:=jr ρ2 H2 h2 i l2 rh2 hok
   obtain ⟨go,yl⟩:=j1 hlt
   refine .inr ⟨go,fun σ3 H3=>∃ρ3 σp3 h3,Le ρ1 H1 ρ3 H3∧RS X.K ρ3 H3 σp3 σ3∧RH X.K X.mg ρ3 H3 h3∧FulS X ρ3 H3 (mGo it g mb (it.xs.drop (i+1)) σp3 h3) D,fun σ3 H3 z=>⟨_,by omega,rfl,hlt,z⟩,fun x' H' y=>?_⟩
   obtain ⟨ρ',x,l',rh',ex,rx⟩:=yl x' H' y
   have ex':x=it.xs[i]:=by rw[List.getElem?_eq_getElem hlt] at ex;exact (Option.some.inj ex).symm
   subst ex'
   refine ⟨ρ',σp2,h2,_,rs2.le l',rh',rx,?_⟩
   have w2':=FulS.le l' w2
   cases eg:g it.xs[i] σp2 h2 with
   | nx σ4 h4 =>
    rw[eg] at w2'
    intro ρ5 H5 σ5 l5 r5 s5
    refine ⟨ρ5,σ4,h4,s5,r5,?_⟩
    have w3:=FulS.le l5 w2'
    have l6:Le ρ1 H1 ρ5 H5:=l2.trans (l'.trans l5)
    dsimp only at w3
    cases em:mb σ4 h4 with
    | nx σ6 h6=>rw[em] at w3;exact fun ρ7 H7 σ7 l7 r7 s7=>⟨ρ7,σ6,h6,l6.trans l7,s7,r7,FulS.le l7 w3⟩
    | ct σ6 h6=>rw[em] at w3;exact fun ρ7 H7 σ7 l7 r7 s7=>⟨ρ7,σ6,h6,l6.trans l7,s7,r7,FulS.le l7 w3⟩
    | bk σ6 h6=>rw[em] at w3;exact w3
    | rt v h6=>rw[em] at w3;exact w3
    | exc e σ6 h6=>rw[em] at w3;exact w3
    | rse e σ6 h6=>rw[em] at w3;exact w3
    | bad=>rw[em] at w3;exact w3
   | exc e σ4 h4=>rw[eg] at w2';exact w2'
   | _=>rw[eg] at w2';exact w2'.elim
  ·exact w2.elim
 ·have e:i=it.xs.length:=by omega
  rw[e,List.drop_length] at w2
  unfold mGo at w2
  split at w2
  ·rename_i hok
   obtain ⟨j1,j2⟩:=jr ρ2 H2 h2 i l2 rh2 hok
   exact .inl ⟨j2 (by omega),w2 ρ2 H2 σ2 (Le.refl _ _) rh2 rs2⟩
  ·exact w2.elim
noncomputable def itSeq (v:PV) (h:MH):Out MIt:=match v with
 | .loc n=>(match h[n]? with
  | some (.lst xs)=>.ok ⟨xs,[(n,xs)]⟩ h
  | _=>.bad)
 | .frl xs=>.ok ⟨xs,[]⟩ h
 | _=>.bad
noncomputable def mItL (m:Mx PV):Mx MIt:=fun σ h=>(m σ h).bind itSeq
theorem eB {ρ:List Addr} {H:Hp} {a:Addr} {xs:List PV} {gd:List (Nat × List PV)} (hS:∀ρ' H' h,Le ρ H ρ' H'→RH X.K X.mg ρ' H' h→(⟨xs,gd⟩:MIt).ok h→∃ys,SqL X.K H' a ys∧RPs X.K ρ' H' xs ys):JRel X ρ H ⟨xs,gd⟩ (Itl X.K a):=by
 intro ρ' H' h i l rh ok
 obtain ⟨ys,hs,rs⟩:=hS ρ' H' h l rh ok
 refine ⟨fun hi=>?_,fun hi=>⟨ys,hs,by rw[←rs.length];exact hi⟩⟩
 have hx:xs[i]?=some (xs[i]'hi):=List.getElem?_eq_getElem hi
 obtain ⟨y,ey,ry⟩:=rs.get hx
 refine ⟨⟨ys,y,hs,ey⟩,fun x' H2 ⟨e,z⟩=>?_⟩
 subst e
 have:ys[i]?=some x':=z ys hs
 rw[ey] at this;cases this
 exact ⟨ρ',_,Le.refl _ _,rh,hx,ry⟩
theorem mi_list {tg l:Expr} {m:Mx PV} (hl:ME X l m):MI X tg l (mItL m) :=
 PI.imp (pi_list hl) fun σ H Q ⟨ρ,σp,h,rs,rh,q⟩=>⟨ρ,σp,h,rs,rh,Ful.bind q fun ρ1 H1 x x' h1 _ l1 rh1 rx q1=>by
  cases rx with
  | @loc n a e =>
   obtain ⟨ob,eo,rob⟩:=rh1.obj e
   dsimp only[itSeq] at q1
   rw[eo] at q1
   cases ob with
   | dic kvs=>exact q1.elim
   | exc x=>exact q1.elim
   | lst xs =>
    obtain ⟨ys,ey,ry⟩:=rob
    refine ⟨a,rfl,⟨ys,SqL.of ey⟩,q1 ρ1 H1 _ (Le.refl _ _) rh1 (eB fun ρ' H' h' l rh' ok=>?_)⟩
    obtain ⟨ys',ey',ry'⟩:=rh'.at' n a _ (l.get e) (ok (n,xs) (by simp))
    exact ⟨ys',SqL.of ey',ry'⟩
  | frl s r =>
   exact ⟨_,rfl,⟨_,s.sq⟩,q1 ρ1 H1 _ (Le.refl _ _) rh1 (eB fun ρ' H' h' l rh' ok=>⟨_,(l.sqf s).sq,r.le l⟩)⟩
  | _=>exact q1.elim⟩
noncomputable def mItT (m:Mx PV):Mx MIt:=fun σ h=>(m σ h).bind fun v h1=>match v with
 | .tup xs=>.ok ⟨xs,[]⟩ h1
 | _=>.bad
theorem mi_tup {tg l:Expr} {m:Mx PV} (hl:ME X l m):MI X tg l (mItT m) :=
 PI.imp (pi_tup hl) fun σ H Q ⟨ρ,σp,h,rs,rh,q⟩=>⟨ρ,σp,h,rs,rh,Ful.bind q fun ρ1 H1 x x' h1 _ l1 rh1 rx q1=>by
  cases rx with
  | @tup xs a ys s r =>
   refine ⟨_,rfl,⟨_,s⟩,q1 ρ1 H1 _ (Le.refl _ _) rh1 ?_⟩
   intro ρ' H' h' i l rh' ok
   have s':=l.sqt s
   have r':=r.le l
   refine ⟨fun hi=>?_,fun hi=>⟨ys,s',by rw[←r.length];exact hi⟩⟩
   have hx:xs[i]?=some (xs[i]'hi):=List.getElem?_eq_getElem hi
   obtain ⟨y,ey,ry⟩:=r'.get hx
   refine ⟨⟨ys,y,s',ey⟩,fun x' H2 ⟨e,z⟩=>?_⟩
   subst e
   have:ys[i]?=some x':=z ys s'
   rw[ey] at this;cases this
   exact ⟨ρ',_,Le.refl _ _,rh',hx,ry⟩
  | _=>exact q1.elim⟩
def aL (lo:Int) (n:Nat):List PV:=(List.range n).map fun (i:Nat)=>PV.int (lo+(i:Int))
theorem cM (lo:Int) (n:Nat):(aL lo n).length=n:=by simp[aL]
theorem Itr_rel {ρ:List Addr} {H:Hp} (lo:Int) (n:Nat):JRel X ρ H ⟨aL lo n,[]⟩ (Itr lo n):=by
 intro ρ' H' h i l rh ok
 have hl:(aL lo n).length=n:=cM lo n
 refine ⟨fun hi=>⟨by rw[hl] at hi;exact hi,fun x' H2 ⟨e1,e2⟩=>?_⟩,fun hi=>by rw[hl] at hi;exact hi⟩
 subst e1;subst e2
 rw[hl] at hi
 exact ⟨ρ',.int (lo+i),Le.refl _ _,rh,by simp[aL,hi],.int _⟩
noncomputable def cs (m:Mx (List PV)):Mx MIt:=fun σ h=>(m σ h).bind fun vs h1=>match vs with
 | [.int j]=>if -(2 ^ 62)≤j∧j<2 ^ 62 then .ok ⟨aL 0 j.toNat,[]⟩ h1 else .bad
 | _=>.bad
theorem dj {tg a:Expr} {m:Mx (List PV)} {p pos:Pos} (hg:Gl X "range") (hm:X.mg "range"=none) (ha:MA X [a] m) (hs:starEach [a] X.env=[(false,eval a X.env)]:=by rfl):MI X tg (.Call (.Name "range" p) [a] [] pos) (cs m):=by
 refine PI.imp (fL hg hm ha hs) fun σ H Q ⟨ρ,σp,h,rs,rh,q⟩=>⟨ρ,σp,h,rs,rh,Ful.bind q fun ρ1 H1 x x' h1 _ l1 rh1 rx q1=>?_⟩
 cases rx with
 | nil=>exact q1.elim
 | cons r1 t1 =>
  cases t1 with
  | nil =>
   cases r1 with
   | int j =>
    dsimp only at q1
    split at q1
    ·rename_i hj
     exact ⟨j,rfl,hj.1,hj.2,q1 ρ1 H1 _ (Le.refl _ _) rh1 (Itr_rel 0 j.toNat)⟩
    ·exact q1.elim
   | _=>exact q1.elim
  | cons r2 t2=>cases r1 <;> exact q1.elim
def mWhN (c:Mx Bool) (b:Mst):Nat→Mst
 | 0=>fun _ _=>.bad
 | n+1=>mEx c fun x=>if x=true then (fun σ h=>match b σ h with
   | .nx σ2 h2=>mWhN c b n σ2 h2
   | .ct σ2 h2=>mWhN c b n σ2 h2
   | .bk σ2 h2=>.nx σ2 h2
   | .rt v h2=>.rt v h2
   | .exc e σ2 h2=>.exc e σ2 h2
   | .rse e σ2 h2=>.rse e σ2 h2
   | .bad=>.bad) else mSkip
noncomputable def mWh (c:Mx Bool) (b:Mst):Mst:=fun σ h=>if z:∃n,mWhN c b n σ h≠.bad then mWhN c b (Classical.choose z) σ h else .bad
theorem cl {c:Mx Bool} {b:Mst}:∀{n:Nat} {σ:PSt} {h:MH},mWhN c b n σ h≠.bad→mWhN c b (n+1) σ h=mWhN c b n σ h
 | 0,_,_,q=>absurd rfl q
 | n+1,σ,h,q=>by
  rw[mWhN] at q
  conv=>lhs;rw[mWhN]
  conv=>rhs;rw[mWhN]
  unfold mEx at q ⊢
  cases e:c σ h with
  | exc x h1=>rfl
  | bad=>rfl
  | ok x h1 =>
   rw[e] at q
   dsimp only at q ⊢
   cases x with
   | false=>rfl
   | true =>
    simp only[if_true] at q ⊢
    cases em:b σ h1 with
    | nx σ2 h2=>rw[em] at q;exact cl q
    | ct σ2 h2=>rw[em] at q;exact cl q
    | _=>rfl
theorem eK {c:Mx Bool} {b:Mst} {n m:Nat} {σ:PSt} {h:MH} (q:mWhN c b n σ h≠.bad) (l:n≤m):mWhN c b m σ h=mWhN c b n σ h:=by
 induction l with
 | refl=>rfl
 | step l ih=>rw[cl (by rw[ih];exact q),ih]
theorem dY {c:Mx Bool} {b:Mst} {n:Nat} {σ:PSt} {h:MH} (q:mWhN c b n σ h≠.bad):mWh c b σ h=mWhN c b n σ h:=by
 have z:∃n,mWhN c b n σ h≠.bad:=⟨n,q⟩
 unfold mWh
 rw[dif_pos z]
 have q2:=Classical.choose_spec z
 rcases Nat.le_total n (Classical.choose z) with l|l
 ·exact eK q l
 ·exact (eK q2 l).symm
theorem dR (gd:Good X N W G k) {c:Expr} {body:List Stmt} {mc:Mx Bool} {mb:Mst} {pos:Pos} (hc:MT X c mc) (hb:MSs X body mb):MS X (.While c body [] pos) (mWh mc mb):=by
 refine PS.imp (gc gd.po hc hb) fun D σ H ⟨ρ,σp,h,rs,rh,q⟩=>?_
 refine ⟨fun m σ H=>∃ρ σp h,RS X.K ρ H σp σ∧RH X.K X.mg ρ H h∧FulS X ρ H (mWhN mc mb m σp h) D,?_,?_⟩
 ·unfold mWh at q
  split at q
  ·exact ⟨_,ρ,σp,h,rs,rh,q⟩
  ·exact q.elim
 ·rintro m σ1 H1 ⟨ρ1,σp1,h1,rs1,rh1,q1⟩
  cases m with
  | zero=>exact q1.elim
  | succ m =>
   rw[mWhN] at q1
   refine ⟨ρ1,σp1,h1,rs1,rh1,FulS.ex q1 fun ρ2 H2 v v' h2 l2 r2 z w=>?_⟩
   cases z
   cases v with
   | false=>rw[if_neg Bool.false_ne_true] at w ⊢;exact w ρ2 H2 σ1 (Le.refl _ _) r2 (rs1.le l2)
   | true =>
    rw[if_pos rfl] at w ⊢
    refine ⟨fun σ H=>∃ρ σp h,RS X.K ρ H σp σ∧RH X.K X.mg ρ H h∧FulS X ρ H (mWhN mc mb m σp h) D,fun σ' H' z=>⟨m,Nat.lt_succ_self _,z⟩,ρ2,σp1,h2,rs1.le l2,r2,?_⟩
    cases em:mb σp1 h2 with
    | nx σ6 h6=>rw[em] at w;exact fun ρ7 H7 σ7 l7 r7 s7=>⟨ρ7,σ6,h6,s7,r7,FulS.le l7 w⟩
    | ct σ6 h6=>rw[em] at w;exact fun ρ7 H7 σ7 l7 r7 s7=>⟨ρ7,σ6,h6,s7,r7,FulS.le l7 w⟩
    | bk σ6 h6=>rw[em] at w;exact w
    | rt v h6=>rw[em] at w;exact w
    | exc e σ6 h6=>rw[em] at w;exact w
    | rse e σ6 h6=>rw[em] at w;exact w
    | bad=>rw[em] at w;exact w
end
section
variable {X:Cx} {N W G:List Str} {k:Nat}
def bq (f:PV→Option PyData):List PV→Option (List PyData)
 | []=>some []
 | x::r=>match f x,bq f r with
  | some d,some ds=>some (d::ds)
  | _,_=>none
def rd:Nat→MH→PV→Option PyData
 | 0,_,v=>(match v with
  | .non=>some .none
  | .bl b=>some (.bool b)
  | .int i=>some (.int i)
  | .str x=>some (.str x)
  | _=>none)
 | n+1,h,v=>(match v with
  | .non=>some .none
  | .bl b=>some (.bool b)
  | .int i=>some (.int i)
  | .str x=>some (.str x)
  | .tup xs=>(bq (rd n h) xs).map PyData.tuple
  | .frl xs=>(bq (rd n h) xs).map PyData.list
  | .loc m=>(match h[m]? with
   | some (.lst xs)=>(bq (rd n h) xs).map PyData.list
   | _=>none))
theorem bz {hp:Heap} {f:PV→Option PyData} {K:PySem.W.Frag} {ρ:List Addr} {H:Hp} (hf:∀v v' u d,RP K ρ H v v'→RelV v' u→f v=some d→∃as,Reads hp u d as) :
  ∀{xs:List PV} {ys:List V} {us:List Value} {ds:List PyData},RPs K ρ H xs ys→Vals ys us→bq f xs=some ds→∃as,ReadsAll hp us ds as
 | _,_,_,ds,.nil,.nil,e=>by cases e;exact ⟨_,.nil⟩
 | _,_,_,ds,.cons r t,.cons v w,e=>by
  simp only[bq] at e
  split at e
  ·rename_i d ds' e1 e2
   cases e
   obtain ⟨a1,q1⟩:=hf _ _ _ _ r v e1
   obtain ⟨a2,q2⟩:=bz hf t w e2
   exact ⟨_,.cons q1 q2⟩
  ·cases e
theorem bj {pins:List (Addr × Obj)} {σ:L2.St} {H:Hp} {s:Shared} {ρ:List Addr} {h:MH} (I:Inv X pins σ H s) (rh:RH X.K X.mg ρ H h) :
  ∀(n:Nat) (v:PV) (v':V) (u:Value) (d:PyData),RP X.K ρ H v v'→RelV v' u→rd n h v=some d→∃as,Reads s.heap u d as
 | 0,_,_,u,d,.non,r,e=>by cases e;cases r;exact ⟨_,.none⟩
 | 0,_,_,u,d,.bl b,r,e=>by cases e;cases r;exact ⟨_,.bool b⟩
 | 0,_,_,u,d,.int i,r,e=>by cases e;obtain ⟨t,rfl⟩:=r;exact ⟨_,.int i t⟩
 | 0,_,_,u,d,.str i,r,e=>by cases e;obtain ⟨t,rfl⟩:=r;exact ⟨_,.str i t⟩
 | 0,_,_,u,d,.tup _ _,r,e=>by cases e
 | 0,_,_,u,d,.frl _ _,r,e=>by cases e
 | 0,_,_,u,d,.loc _,r,e=>by cases e
 | n+1,_,_,u,d,.non,r,e=>by cases e;cases r;exact ⟨_,.none⟩
 | n+1,_,_,u,d,.bl b,r,e=>by cases e;cases r;exact ⟨_,.bool b⟩
 | n+1,_,_,u,d,.int i,r,e=>by cases e;obtain ⟨t,rfl⟩:=r;exact ⟨_,.int i t⟩
 | n+1,_,_,u,d,.str i,r,e=>by cases e;obtain ⟨t,rfl⟩:=r;exact ⟨_,.str i t⟩
 | n+1,.tup xs,_,u,d,.tup (a:=a) s rr,r,e=>by
  cases r
  simp only[rd] at e
  cases q:bq (rd n h) xs with
  | none=>rw[q] at e;cases e
  | some ds =>
   rw[q] at e;cases e
   obtain ⟨its,rv,⟨o,e1,e2,m,e3⟩,_⟩:=I.tuple s
   obtain ⟨as,ra⟩:=bz (bj I rh n) rr rv q
   exact ⟨_,.tuple e1 e2 e3 (by simpa using ra)⟩
 | n+1,.frl xs,_,u,d,.frl (a:=a) s rr,r,e=>by
  cases r
  simp only[rd] at e
  cases q:bq (rd n h) xs with
  | none=>rw[q] at e;cases e
  | some ds =>
   rw[q] at e;cases e
   obtain ⟨its,rv,⟨o,m,e1,e2,_,e3⟩,_⟩:=I.list s.sq
   obtain ⟨as,ra⟩:=bz (bj I rh n) rr rv q
   exact ⟨_,.list e1 e2 e3 (by simpa using ra)⟩
 | n+1,.loc m,_,u,d,.loc (a:=a) en,r,e=>by
  cases r
  simp only[rd] at e
  obtain ⟨ob,eo,rob⟩:=rh.obj en
  rw[eo] at e
  cases ob with
  | dic kvs=>cases e
  | exc x=>cases e
  | lst xs =>
   obtain ⟨ys,ey,ry⟩:=rob
   dsimp only at e
   cases q:bq (rd n h) xs with
   | none=>rw[q] at e;cases e
   | some ds =>
    rw[q] at e;cases e
    obtain ⟨its,rv,⟨o,m',e1,e2,_,e3⟩,_⟩:=I.list (SqL.of (K:=X.K) ey)
    obtain ⟨as,ra⟩:=bz (bj I rh n) ry rv q
    exact ⟨_,.list e1 e2 e3 (by simpa using ra)⟩
noncomputable def opEq (x y:PV) (h:MH):Out PV:=match rd 60 h x,rd 60 h y with
 | some a,some b=>if SeqAt.shaped a=true∧SeqAt.shaped b=true then .ok (.bl (PyData.eqv a b)) h else .bad
 | _,_=>.bad
noncomputable def opNe (x y:PV) (h:MH):Out PV:=match rd 60 h x,rd 60 h y with
 | some a,some b=>if SeqAt.shaped a=true∧SeqAt.shaped b=true then .ok (.bl (!PyData.eqv a b)) h else .bad
 | _,_=>.bad
theorem cu (hr:Room k X.A):OpJ X (compareOp .Eq) opEq:=by
 intro pins s σ H x' y' u v Q I rx' ry' ⟨ρ,h,x,y,rh,rx,ry,q⟩
 unfold opEq at q
 split at q
 ·rename_i a b ea eb
  split at q
  ·rename_i hs
   obtain ⟨_,ra⟩:=bj I rh 60 x x' u a rx rx' ea
   obtain ⟨_,rb⟩:=bj I rh 60 y y' v b ry ry' eb
   exact eq_dataH ra rb hs.1 hs.2 hr.units ⟨.bl _,H,I,rfl,q ρ H _ (Le.refl _ _) rh (.bl _)⟩
  ·exact q.elim
 ·exact q.elim
theorem eS (hr:Room k X.A):OpJ X (compareOp .NotEq) opNe:=by
 intro pins s σ H x' y' u v Q I rx' ry' ⟨ρ,h,x,y,rh,rx,ry,q⟩
 unfold opNe at q
 split at q
 ·rename_i a b ea eb
  split at q
  ·rename_i hs
   obtain ⟨_,ra⟩:=bj I rh 60 x x' u a rx rx' ea
   obtain ⟨_,rb⟩:=bj I rh 60 y y' v b ry ry' eb
   exact ne_dataH ra rb hs.1 hs.2 hr.units ⟨.bl _,H,I,rfl,q ρ H _ (Le.refl _ _) rh (.bl _)⟩
  ·exact q.elim
 ·exact q.elim
def opII (f:Int→Int→PV):PV→PV→MH→Out PV:=fun x y h=>match x,y with
 | .int i,.int j=>.ok (f i j) h
 | _,_=>.bad
theorem dy {F:Value→Value→Sem Value} {f:Int→Int→V} {g:Int→Int→PV} (ho:OpR X F (rI0 f)) (hfg:∀ρ H i j,RP X.K ρ H (g i j) (f i j)):OpJ X F (opII g):=by
 intro pins s σ H x' y' u v Q I rx' ry' ⟨ρ,h,x,y,rh,rx,ry,q⟩
 cases rx with
 | int i =>
  cases ry with
  | int j=>exact ho pins s σ H _ _ u v Q I rx' ry' ⟨i,j,rfl,rfl,q ρ H _ (Le.refl _ _) rh (hfg ρ H i j)⟩
  | _=>exact q.elim
 | _=>cases ry <;> exact q.elim
noncomputable def opLt:=opII fun i j=>.bl (decide (i<j))
noncomputable def opGt:=opII fun i j=>.bl (decide (j<i))
noncomputable def opGe:=opII fun i j=>.bl (decide (j≤i))
theorem oj_lt:OpJ X (compareOp .Lt) opLt:=dy op_lt fun _ _ _ _=>.bl _
theorem eU:OpJ X (compareOp .Gt) opGt:=dy op_gt fun _ _ _ _=>.bl _
theorem oj_ge:OpJ X (compareOp .GtE) opGe:=dy op_ge fun _ _ _ _=>.bl _
def opIs (neg:Bool):PV→PV→MH→Out PV:=fun x y h=>match y with
 | .non=>(match x with
  | .non=>.ok (.bl (!neg)) h
  | _=>.ok (.bl neg) h)
 | .bl b=>(match x with
  | .bl c=>.ok (.bl (if neg then !(c == b) else c == b)) h
  | .non=>.ok (.bl neg) h
  | .int _=>.ok (.bl neg) h
  | .str _=>.ok (.bl neg) h
  | .tup _=>.ok (.bl neg) h
  | _=>.bad)
 | _=>.bad
noncomputable def opMul (x y:PV) (h:MH):Out PV:=match x,y with
 | .int i,.int j=>if IntMulOk i j then .ok (.int (i * j)) h else .bad
 | .loc n,.int j=>(match h[n]? with
  | some (.lst xs)=>if -(2 ^ 63)≤j∧j<2 ^ 63 then newL (List.flatten (List.replicate j.toNat xs)) h else .bad
  | _=>.bad)
 | _,_=>.bad
noncomputable def opFd (x y:PV) (h:MH):Out PV:=match x,y with
 | .int i,.int j=>if j≠0∧Builtin.divisionGoesByPylong i j=false then .ok (.int (i.fdiv j)) h else .bad
 | _,_=>.bad
noncomputable def opMod (x y:PV) (h:MH):Out PV:=match x,y with
 | .int i,.int j=>if j≠0 then .ok (.int (i.fmod j)) h else .bad
 | _,_=>.bad
noncomputable def opPow (x y:PV) (h:MH):Out PV:=match x,y with
 | .int i,.int j=>if CPow i j then .ok (.int (i ^ j.toNat)) h else .bad
 | _,_=>.bad
noncomputable def opAdd (x y:PV) (h:MH):Out PV:=match x,y with
 | .int i,.int j=>.ok (.int (i+j)) h
 | .str a,.str b=>if a.length+b.length≤sizeLine then .ok (.str (a++b)) h else .bad
 | .loc n,.loc m=>(match h[n]?,h[m]? with
  | some (.lst xs),some (.lst ys)=>newL (xs++ys) h
  | _,_=>.bad)
 | .tup xs,.tup ys=>if xs≠[] then newT (xs++ys) h else .bad
 | _,_=>.bad
noncomputable def opSub:=opII fun i j=>.int (i - j)
def opNeg (x:PV) (h:MH):Out PV:=match x with
 | .int i=>.ok (.int (-i)) h
 | _=>.bad
theorem b6:OpJ X (binaryOp .Sub) opSub:=dy op_sub fun _ _ _ _=>.int _
theorem cI:UnJ X (unaryOp .USub) opNeg:=by
 intro pins s σ H x' u Q I rx' ⟨ρ,h,x,rh,rx,q⟩
 cases rx with
 | int i=>exact un_neg pins s σ H _ u Q I rx' ⟨i,rfl,q ρ H _ (Le.refl _ _) rh (.int _)⟩
 | _=>exact q.elim
theorem dB:OpJ X (binaryOp .FloorDiv) opFd:=by
 intro pins s σ H x' y' u v Q I rx' ry' ⟨ρ,h,x,y,rh,rx,ry,q⟩
 cases rx with
 | int i =>
  cases ry with
  | int j =>
   dsimp only[opFd] at q
   split at q
   ·rename_i hc
    obtain ⟨t,rfl⟩:=rx'
    obtain ⟨t',rfl⟩:=ry'
    exact floordiv_int hc.1 ⟨.int _,H,I.tok _,⟨_,rfl⟩,q ρ H _ (Le.refl _ _) rh (.int _)⟩ (.inl hc.2)
   ·exact q.elim
  | _=>exact q.elim
 | _=>cases ry <;> exact q.elim
theorem aP:OpJ X (binaryOp .Mod) opMod:=by
 intro pins s σ H x' y' u v Q I rx' ry' ⟨ρ,h,x,y,rh,rx,ry,q⟩
 cases rx with
 | int i =>
  cases ry with
  | int j =>
   dsimp only[opMod] at q
   split at q
   ·rename_i hc
    obtain ⟨t,rfl⟩:=rx'
    obtain ⟨t',rfl⟩:=ry'
    exact mod_int' hc ⟨.int _,H,I.tok _,⟨_,rfl⟩,q ρ H _ (Le.refl _ _) rh (.int _)⟩
   ·exact q.elim
  | _=>exact q.elim
 | _=>cases ry <;> exact q.elim
theorem bU:OpJ X (binaryOp .Pow) opPow:=by
 intro pins s σ H x' y' u v Q I rx' ry' ⟨ρ,h,x,y,rh,rx,ry,q⟩
 cases rx with
 | int i =>
  cases ry with
  | int j =>
   dsimp only[opPow] at q
   split at q
   ·rename_i hc
    exact op_pow pins s σ H _ _ u v Q I rx' ry' ⟨i,j,rfl,rfl,hc,q ρ H _ (Le.refl _ _) rh (.int _)⟩
   ·exact q.elim
  | _=>exact q.elim
 | _=>cases ry <;> exact q.elim
theorem aw:OpJ X (binaryOp .Add) opAdd:=by
 intro pins s σ H x' y' u v Q I rx' ry' ⟨ρ,h,x,y,rh,rx,ry,q⟩
 cases rx with
 | int i =>
  cases ry with
  | int j=>exact op_add pins s σ H _ _ u v Q I rx' ry' ⟨i,j,rfl,rfl,q ρ H _ (Le.refl _ _) rh (.int _)⟩
  | _=>exact q.elim
 | str a =>
  cases ry with
  | str b =>
   dsimp only[opAdd] at q
   split at q
   ·rename_i hl
    exact fi pins s σ H _ _ u v Q I rx' ry' ⟨a,b,rfl,rfl,hl,q ρ H _ (Le.refl _ _) rh (.str _)⟩
   ·exact q.elim
  | _=>exact q.elim
 | @loc n a e =>
  cases ry with
  | @loc m b e2 =>
   dsimp only[opAdd] at q
   obtain ⟨o1,h1,r1⟩:=rh.obj e
   obtain ⟨o2,h2,r2⟩:=rh.obj e2
   rw[h1,h2] at q
   cases o1 with
   | dic kvs=>exact q.elim
   | exc x=>exact q.elim
   | lst xs =>
    cases o2 with
    | dic kvs=>exact q.elim
    | exc x=>exact q.elim
    | lst ys =>
     obtain ⟨xs',ex,rx1⟩:=r1
     obtain ⟨ys',ey,ry1⟩:=r2
     obtain ⟨z1,z2⟩:=cW rh (rx1.append ry1) q
     exact op_cat pins s σ H _ _ u v Q I rx' ry' ⟨a,b,xs',ys',rfl,rfl,ex,ey,by rw[←List.length_append];exact z1,z2⟩
  | _=>exact q.elim
 | tup s1 r1 =>
  cases ry with
  | tup s2 r2 =>
   dsimp only[opAdd] at q
   split at q
   ·rename_i hne
    obtain ⟨z1,z2⟩:=eE rh (r1.append r2) q
    refine op_catT pins s σ H _ _ u v Q I rx' ry' ⟨_,_,_,_,rfl,rfl,s1,s2,?_,by rw[←List.length_append];exact z1,fun z=>?_,fun _=>z2⟩
    ·rintro rfl
     cases r1
     exact hne rfl
    ·subst z
     cases r2
     unfold newT at q
     split at q
     ·exact q ρ H _ (Le.refl _ _) rh (by rw[List.append_nil];exact .tup s1 r1)
     ·exact q.elim
   ·exact q.elim
  | _=>exact q.elim
 | _=>cases ry <;> exact q.elim
theorem RPs.rep {K:PySem.W.Frag} {ρ:List Addr} {H:Hp} {xs:List PV} {ys:List V} (r:RPs K ρ H xs ys):∀n:Nat,RPs K ρ H (List.replicate n xs).flatten (List.replicate n ys).flatten
 | 0=>.nil
 | n+1=>by rw[List.replicate_succ,List.replicate_succ,List.flatten_cons,List.flatten_cons];exact r.append (RPs.rep r n)
end
section
variable {X:Cx} {N W G:List Str} {k:Nat}
theorem aU:OpJ X (binaryOp .Mult) opMul:=by
 intro pins s σ H x' y' u v Q I rx' ry' ⟨ρ,h,x,y,rh,rx,ry,q⟩
 cases rx with
 | int i =>
  cases ry with
  | int j =>
   dsimp only[opMul] at q
   split at q
   ·rename_i hc
    obtain ⟨t,rfl⟩:=rx'
    obtain ⟨t',rfl⟩:=ry'
    exact PyProof.Rows.mul_int ⟨.int _,H,I.tok _,⟨_,rfl⟩,q ρ H _ (Le.refl _ _) rh (.int _)⟩ hc
   ·exact q.elim
  | _=>exact q.elim
 | @loc n a e =>
  cases ry with
  | int j =>
   dsimp only[opMul] at q
   obtain ⟨o1,h1,r1⟩:=rh.obj e
   rw[h1] at q
   cases o1 with
   | dic kvs=>exact q.elim
   | exc x=>exact q.elim
   | lst xs =>
    dsimp only at q
    split at q
    ·rename_i hj
     obtain ⟨xs',ex,rx1⟩:=r1
     obtain ⟨z1,z2⟩:=cW rh (rx1.rep j.toNat) q
     refine op_rep pins s σ H _ _ u v Q I rx' ry' ⟨a,j,xs',rfl,rfl,ex,hj.1,hj.2,?_,z2⟩
     rw[eR] at z1
     rw[Nat.mul_comm];exact z1
    ·exact q.elim
  | _=>exact q.elim
 | _=>cases ry <;> exact q.elim
theorem cH {pins:List (Addr × Obj)} {σ:L2.St} {H:Hp} {s:Shared} {Q:VK} {x':V} {u:Value} {b c:Bool} (I:Inv X pins σ H s) (r:RelV x' u) (hp:plainIs u (.bool b)=true) (hc:(u == .bool b)=c) (q:Q (.bl c) H) :
  wpAny (model X.prog X.w) X.A (compareOp .Is u (.bool b)) (EP X pins σ Q) X.xe s:=by
 show wpAny _ _ (do return Value.bool (←isSame u (.bool b))) _ _ _
 exact wpAny_bind (wpAny_isSame_plain hp (wpAny_pure (by rw[hc];exact ⟨.bl c,H,I,rfl,q⟩)))
theorem ck {pins:List (Addr × Obj)} {σ:L2.St} {H:Hp} {s:Shared} {Q:VK} {x':V} {u:Value} {b c:Bool} (I:Inv X pins σ H s) (r:RelV x' u) (hp:plainIs u (.bool b)=true) (hc:(!(u == .bool b))=c) (q:Q (.bl c) H) :
  wpAny (model X.prog X.w) X.A (compareOp .IsNot u (.bool b)) (EP X pins σ Q) X.xe s:=by
 show wpAny _ _ (do return Value.bool (!(←isSame u (.bool b)))) _ _ _
 exact wpAny_bind (wpAny_isSame_plain hp (wpAny_pure (by rw[hc];exact ⟨.bl c,H,I,rfl,q⟩)))
theorem oj_is:OpJ X (compareOp .Is) (opIs false):=by
 intro pins s σ H x' y' u v Q I rx' ry' ⟨ρ,h,x,y,rh,rx,ry,q⟩
 cases ry with
 | non =>
  refine op_isN pins s σ H _ _ u v Q I rx' ry' ⟨rfl,?_⟩
  cases rx <;> exact q ρ H _ (Le.refl _ _) rh (by first | exact .bl true | exact .bl false)
 | bl b =>
  cases ry'
  cases rx with
  | non=>cases rx';exact cH (x':=.non) (c:=false) I rfl (by cases b <;> rfl) (by cases b <;> rfl) (q ρ H _ (Le.refl _ _) rh (.bl false))
  | bl c=>cases rx';exact cH (x':=.bl c) (c:=c == b) I rfl (by cases b <;> cases c <;> rfl) (by cases b <;> cases c <;> rfl) (q ρ H _ (Le.refl _ _) rh (.bl _))
  | int i=>obtain ⟨t,rfl⟩:=rx';exact cH (x':=.int i) (c:=false) I ⟨_,rfl⟩ (by cases b <;> rfl) (by cases b <;> rfl) (q ρ H _ (Le.refl _ _) rh (.bl false))
  | str i=>obtain ⟨t,rfl⟩:=rx';exact cH (x':=.str i) (c:=false) I ⟨_,rfl⟩ (by cases b <;> rfl) (by cases b <;> rfl) (q ρ H _ (Le.refl _ _) rh (.bl false))
  | tup s1 r1=>cases rx';exact cH (x':=.ref _) (c:=false) I rfl (by cases b <;> rfl) (by cases b <;> rfl) (q ρ H _ (Le.refl _ _) rh (.bl false))
  | _=>exact q.elim
 | _=>exact q.elim
theorem fF:OpJ X (compareOp .IsNot) (opIs true):=by
 intro pins s σ H x' y' u v Q I rx' ry' ⟨ρ,h,x,y,rh,rx,ry,q⟩
 cases ry with
 | non =>
  refine op_notN pins s σ H _ _ u v Q I rx' ry' ⟨rfl,?_⟩
  cases rx <;> exact q ρ H _ (Le.refl _ _) rh (by first | exact .bl true | exact .bl false)
 | bl b =>
  cases ry'
  cases rx with
  | non=>cases rx';exact ck (x':=.non) (c:=true) I rfl (by cases b <;> rfl) (by cases b <;> rfl) (q ρ H _ (Le.refl _ _) rh (.bl true))
  | bl c=>cases rx';exact ck (x':=.bl c) (c:=!(c == b)) I rfl (by cases b <;> cases c <;> rfl) (by cases b <;> cases c <;> rfl) (q ρ H _ (Le.refl _ _) rh (.bl _))
  | int i=>obtain ⟨t,rfl⟩:=rx';exact ck (x':=.int i) (c:=true) I ⟨_,rfl⟩ (by cases b <;> rfl) (by cases b <;> rfl) (q ρ H _ (Le.refl _ _) rh (.bl true))
  | str i=>obtain ⟨t,rfl⟩:=rx';exact ck (x':=.str i) (c:=true) I ⟨_,rfl⟩ (by cases b <;> rfl) (by cases b <;> rfl) (q ρ H _ (Le.refl _ _) rh (.bl true))
  | tup s1 r1=>cases rx';exact ck (x':=.ref _) (c:=true) I rfl (by cases b <;> rfl) (by cases b <;> rfl) (q ρ H _ (Le.refl _ _) rh (.bl true))
  | _=>exact q.elim
 | _=>exact q.elim
noncomputable def opIx (x y:PV) (h:MH):Out PV:=match y with
 | .int i=>(match x with
  | .loc n=>(match h[n]? with
   | some (.lst xs)=>(match atI xs i with
    | some v=>.ok v h
    | none=>.bad)
   | _=>.bad)
  | .tup xs=>(match atI xs i with
   | some v=>.ok v h
   | none=>.bad)
  | .frl xs=>(match atI xs i with
   | some v=>.ok v h
   | none=>.bad)
  | .str z=>(match atI z.cps.toList i with
   | some c=>if z.length≤sizeLine then .ok (.str ⟨#[c]⟩) h else .bad
   | none=>.bad)
  | _=>.bad)
 | _=>.bad
theorem cZ {K:PySem.W.Frag} {ρ:List Addr} {H:Hp} {xs:List PV} {ys:List V} {i:Int} {v:PV} (r:RPs K ρ H xs ys) (e:atI xs i=some v):∃v',atI ys i=some v'∧RP K ρ H v v':=by
 unfold atI at e ⊢
 rw[←r.length]
 cases q:ixN xs.length i with
 | none=>rw[q] at e;cases e
 | some j =>
  rw[q] at e
  exact r.get e
theorem aH {a b:Expr} {ma mb:Mx PV} {pos:Pos} (ha:ME X a ma) (hb:ME X b mb) (hs:eH b):ME X (.Subscript a b pos) (mBin opIx ma mb):=by
 refine PE.imp (pe_ix ix_seq ha hb hs) fun σ H Q q=>?_
 obtain ⟨ρ,σp,h,rs,rh,q⟩:=q
 refine ⟨ρ,σp,h,rs,rh,Ful.bind q fun ρ1 H1 x x' h1 _ l1 rh1 rx q1=>⟨ρ1,σp,h1,rs.le l1,rh1,Ful.bind q1 fun ρ2 H2 y y' h2 _ l2 rh2 ry q2=>?_⟩⟩
 have rx2:=rx.le l2
 cases ry with
 | int i =>
  cases rx2 with
  | @loc n a e =>
   obtain ⟨ob,eo,rob⟩:=rh2.obj e
   dsimp only[opIx] at q2
   rw[eo] at q2
   cases ob with
   | dic kvs=>exact q2.elim
   | exc x=>exact q2.elim
   | lst xs =>
    obtain ⟨ys,ey,rr⟩:=rob
    dsimp only at q2
    cases ea:atI xs i with
    | none=>rw[ea] at q2;exact q2.elim
    | some v =>
     rw[ea] at q2
     obtain ⟨v',e',rv⟩:=cZ rr ea
     exact .inl ⟨a,ys,i,v',rfl,rfl,SqL.of ey,e',q2 ρ2 H2 _ (Le.refl _ _) rh2 rv⟩
  | @tup xs a ys s1 rr =>
   dsimp only[opIx] at q2
   cases ea:atI xs i with
   | none=>rw[ea] at q2;exact q2.elim
   | some v =>
    rw[ea] at q2
    obtain ⟨v',e',rv⟩:=cZ rr ea
    exact .inr (.inl ⟨_,_,i,v',rfl,rfl,s1,e',q2 ρ2 H2 _ (Le.refl _ _) rh2 rv⟩)
  | @frl xs a ys s1 rr =>
   dsimp only[opIx] at q2
   cases ea:atI xs i with
   | none=>rw[ea] at q2;exact q2.elim
   | some v =>
    rw[ea] at q2
    obtain ⟨v',e',rv⟩:=cZ rr ea
    exact .inl ⟨_,_,i,v',rfl,rfl,s1.sq,e',q2 ρ2 H2 _ (Le.refl _ _) rh2 rv⟩
  | str z =>
   dsimp only[opIx] at q2
   cases ea:atI z.cps.toList i with
   | none=>rw[ea] at q2;exact q2.elim
   | some c =>
    rw[ea] at q2
    dsimp only at q2
    split at q2
    ·rename_i hz
     exact .inr (.inr ⟨z,i,c,rfl,rfl,hz,ea,q2 ρ2 H2 _ (Le.refl _ _) rh2 (.str _)⟩)
    ·exact q2.elim
  | _=>exact q2.elim
 | _=>exact q2.elim
def mCB (f:List PV→MH→Out PV) (m:Mx (List PV)):Mx PV:=fun σ h=>(m σ h).bind fun xs h1=>(f xs h1).ne
section
variable {x:Str} {id T:String} {e:Expr} {es:List Expr} {f:List PV→MH→Out PV} {m:Mx (List PV)} {p pos:Pos}
theorem tM_cb {σ:L2.St} {H:Hp} {Q:VK} (q:tM X (RV' X) (mCB f m) σ H Q):tCB (cJ X f) (tM X (RVs' X) m) σ H Q:=by
 obtain ⟨ρ,σp,h,rs,rh,q⟩:=q
 exact ⟨ρ,σp,h,rs,rh,Ful.bind q fun ρ1 H1 x x' h1 _ l1 rh1 rx q1=>⟨ρ1,h1,x,rh1,rx,q1.zero⟩⟩
theorem aC (g:Good X N W G k) (j:Nat) (hj:G[j]?=some x) (hc:ca X (.builtin id) f) (hm:X.mg x=none) (hv:bootBuiltins x=some (.builtin id)) (ha:MA X (e::es) m)
  (he:starEach (e::es) X.env=(false,eval e X.env)::starEach es X.env:=by rfl) (hpl:(backTo pos (starEach es X.env)).any (·.1)=false:=by rfl):ME X (.Call (.Name x p) (e::es) [] pos) (mCB f m) :=
 have d:=g.dbg x (List.mem_append_right _ (ay hj))
 PE.imp (dU hc (g.gl x (ay hj)) hm hv ha d.2.2 d.1 he hpl) fun _ _ _ q=>tM_cb q
theorem du (g:Good X N W G k) (j:Nat) (hj:G[j]?=some x) (hc:ca X (.type T) f) (hm:X.mg x=none) (hv:bootBuiltins x=some (.type T)) (ha:MA X (e::es) m)
  (he:starEach (e::es) X.env=(false,eval e X.env)::starEach es X.env:=by rfl) (hpl:(backTo pos (starEach es X.env)).any (·.1)=false:=by rfl):ME X (.Call (.Name x p) (e::es) [] pos) (mCB f m) :=
 have d:=g.dbg x (List.mem_append_right _ (ay hj))
 PE.imp (fV hc (g.gl x (ay hj)) hm hv ha d.2.2 d.1 he hpl) fun _ _ _ q=>tM_cb q
end
def fAbs (xs:List PV) (h:MH):Out PV:=match xs with
 | [.int i]=>.ok (.int (if i<0 then -i else i)) h
 | _=>.bad
def fMin (xs:List PV) (h:MH):Out PV:=match xs with
 | [.int i,.int j]=>.ok (.int (if j<i then j else i)) h
 | _=>.bad
noncomputable def fStr (xs:List PV) (h:MH):Out PV:=match xs with
 | [.int i]=>if i.natAbs.log2<1920 then .ok (.str (toString i)) h else .bad
 | _=>.bad
noncomputable def fLen (xs:List PV) (h:MH):Out PV:=match xs with
 | [.loc n]=>(match h[n]? with
  | some (.lst ys)=>.ok (.int ys.length) h
  | _=>.bad)
 | [.tup ys]=>.ok (.int ys.length) h
 | [.frl ys]=>.ok (.int ys.length) h
 | [.str z]=>if z.length≤sizeLine then .ok (.int z.length) h else .bad
 | _=>.bad
theorem ci:ca X (.builtin "abs") fAbs:=by
 intro pins s σ H xs us Q I r ⟨ρ,h,ps,rh,rp,q⟩
 cases rp with
 | nil=>exact q.elim
 | cons r1 t1 =>
  cases t1 with
  | cons _ _=>cases r1 <;> exact q.elim
  | nil =>
   cases r1 with
   | int i=>exact gj pins s σ H _ us Q I r ⟨i,rfl,q ρ H _ (Le.refl _ _) rh (.int _)⟩
   | _=>exact q.elim
theorem gb {f:List PV→MH→Out PV} {F:Int→Int→Int} {r:List V→Hp→VK→Prop} {V0:Value} (hf:∀i j h,f [.int i,.int j] h=.ok (.int (F i j)) h) (hb:∀xs h,(∀i j,xs≠[.int i,.int j])→f xs h=.bad)
  (hc:bH X V0 (fun xs H Q=>∃i j,xs=[.int i,.int j]∧Q (.int (F i j)) H)):ca X V0 f:=by
 intro pins s σ H xs us Q I r ⟨ρ,h,ps,rh,rp,q⟩
 by_cases z:∃i j,ps=[.int i,.int j]
 ·obtain ⟨i,j,rfl⟩:=z
  cases rp with
  | cons r1 t1=>cases t1 with
   | cons r2 t2 =>
    cases t2
    cases r1
    cases r2
    rw[hf] at q
    exact hc pins s σ H _ us Q I r ⟨i,j,rfl,q ρ H _ (Le.refl _ _) rh (.int _)⟩
 ·rw[hb ps h fun i j e=>z ⟨i,j,e⟩] at q
  exact q.elim
theorem fH (g:Good X N W G k):ca X (.builtin "min") fMin:=gb (r:=fun _ _ _=>True) (F:=fun i j=>if j<i then j else i) (fun _ _ _=>rfl) (fun xs h z=>by unfold fMin;split <;> first | rfl | exact absurd rfl (z _ _)) (fQ g.calm)
theorem fj:ca X (.type "str") fStr:=by
 intro pins s σ H xs us Q I r ⟨ρ,h,ps,rh,rp,q⟩
 cases rp with
 | nil=>exact q.elim
 | cons r1 t1 =>
  cases t1 with
  | cons _ _=>cases r1 <;> exact q.elim
  | nil =>
   cases r1 with
   | int i =>
    dsimp only[fStr] at q
    split at q
    ·rename_i hz
     exact dZ pins s σ H _ us Q I r ⟨i,rfl,hz,q ρ H _ (Le.refl _ _) rh (.str _)⟩
    ·exact q.elim
   | _=>exact q.elim
theorem cr:ca X (.builtin "len") fLen:=by
 intro pins s σ H xs us Q I r ⟨ρ,h,ps,rh,rp,q⟩
 cases rp with
 | nil=>exact q.elim
 | cons r1 t1 =>
  cases t1 with
  | cons _ _=>cases r1 <;> exact q.elim
  | nil =>
   cases r1 with
   | @loc n a e =>
    obtain ⟨ob,eo,rob⟩:=rh.obj e
    dsimp only[fLen] at q
    rw[eo] at q
    cases ob with
    | dic kvs=>exact q.elim
    | exc x=>exact q.elim
    | lst xs =>
     obtain ⟨ys,ey,rr⟩:=rob
     exact b9 pins s σ H _ us Q I r ⟨_,_,rfl,.inl ⟨ys,SqL.of ey,rfl⟩,by rw[←rr.length];exact q ρ H _ (Le.refl _ _) rh (.int _)⟩
   | tup s1 rr=>exact b9 pins s σ H _ us Q I r ⟨_,_,rfl,.inr ⟨_,s1,rfl⟩,by rw[←rr.length];exact q ρ H _ (Le.refl _ _) rh (.int _)⟩
   | frl s1 rr=>exact b9 pins s σ H _ us Q I r ⟨_,_,rfl,.inl ⟨_,s1.sq,rfl⟩,by rw[←rr.length];exact q ρ H _ (Le.refl _ _) rh (.int _)⟩
   | str z =>
    dsimp only[fLen] at q
    split at q
    ·rename_i hz
     exact b9 pins s σ H _ us Q I r ⟨_,_,rfl,⟨hz,rfl⟩,q ρ H _ (Le.refl _ _) rh (.int _)⟩
    ·exact q.elim
   | _=>exact q.elim
end
section
variable {X:Cx} {N W G:List Str} {k:Nat}
def tyP (h:MH):PV→Option String
 | .non=>some "NoneType"
 | .bl _=>some "bool"
 | .int _=>some "int"
 | .str _=>some "str"
 | .tup _=>some "tuple"
 | .frl _=>some "list"
 | .loc n=>match h[n]? with
  | some (.lst _)=>some "list"
  | some (.dic _)=>some "dict"
  | _=>none
def isaT (t:String) (T:String):Bool:=t == T || (t == "bool" && T == "int")
def fIsi (Ts:List String) (x:PV) (h:MH):Out PV:=match tyP h x with
 | some t=>.ok (.bl (Ts.any (isaT t))) h
 | none=>.bad
def okT (T:String):Prop:=∀K:PySem.W.Frag,∀t∈["NoneType","bool","int","str","tuple","list","dict"],PySem.W.kitOne K (.type t) (.type T)=some (isaT t T)
theorem dS {T:String} (h1:∀K,PySem.W.kitOne K (.type "NoneType") (.type T)=some (isaT "NoneType" T)) (h2:∀K,PySem.W.kitOne K (.type "bool") (.type T)=some (isaT "bool" T)) (h3:∀K,PySem.W.kitOne K (.type "int") (.type T)=some (isaT "int" T))
  (h4:∀K,PySem.W.kitOne K (.type "str") (.type T)=some (isaT "str" T)) (h5:∀K,PySem.W.kitOne K (.type "tuple") (.type T)=some (isaT "tuple" T)) (h6:∀K,PySem.W.kitOne K (.type "list") (.type T)=some (isaT "list" T))
  (h7:∀K,PySem.W.kitOne K (.type "dict") (.type T)=some (isaT "dict" T)):okT T:=by
 intro K t ht
 simp only[List.mem_cons,List.not_mem_nil,or_false] at ht
 rcases ht with rfl|rfl|rfl|rfl|rfl|rfl|rfl
 ·exact h1 K
 ·exact h2 K
 ·exact h3 K
 ·exact h4 K
 ·exact h5 K
 ·exact h6 K
 ·exact h7 K
theorem eD:okT "int":=dS (fun _=>rfl) (fun _=>rfl) (fun _=>rfl) (fun _=>rfl) (fun _=>rfl) (fun _=>rfl) (fun _=>rfl)
theorem cF:okT "bool":=dS (fun _=>rfl) (fun _=>rfl) (fun _=>rfl) (fun _=>rfl) (fun _=>rfl) (fun _=>rfl) (fun _=>rfl)
theorem dv:okT "tuple":=dS (fun _=>rfl) (fun _=>rfl) (fun _=>rfl) (fun _=>rfl) (fun _=>rfl) (fun _=>rfl) (fun _=>rfl)
theorem kitx_of {pins:List (Addr × Obj)} {σ:L2.St} {H:Hp} {s:Shared} {ρ:List Addr} {h:MH} {x:PV} {x':V} {u:Value} {t:String} (I:Inv X pins σ H s) (rh:RH X.K X.mg ρ H h) (rx:RP X.K ρ H x x') (ru:RelV x' u) (e:tyP h x=some t) :
  t∈["NoneType","bool","int","str","tuple","list","dict"]∧u≠.builtin "__main__.__loader__#opaque"∧∃Hq,PySem.W.KitX X.K u (.type t) Hq∧Hq s.heap:=by
 cases rx with
 | non=>cases e;cases ru;exact ⟨by simp,(fun z=>nomatch z),_,PySem.W.kitx_none,trivial⟩
 | bl b=>cases e;cases ru;exact ⟨by simp,(fun z=>nomatch z),_,PySem.W.kitx_bool,trivial⟩
 | int i=>cases e;obtain ⟨t,rfl⟩:=ru;exact ⟨by simp,(fun z=>nomatch z),_,PySem.W.kitx_int,trivial⟩
 | str i=>cases e;obtain ⟨t,rfl⟩:=ru;exact ⟨by simp,(fun z=>nomatch z),_,PySem.W.kitx_str,trivial⟩
 | tup s1 r1 =>
  cases e;cases ru
  obtain ⟨its,rv,⟨o,e1,e2,_⟩,_⟩:=I.tuple s1
  exact ⟨by simp,(fun z=>nomatch z),_,PySem.W.kitx_tuple,⟨o,e1,e2⟩⟩
 | frl s1 r1 =>
  cases e;cases ru
  obtain ⟨its,rv,⟨o,m,e1,e2,_,e3⟩,_⟩:=I.list s1.sq
  exact ⟨by simp,(fun z=>nomatch z),_,PySem.W.kitx_list,⟨o,e1,e2⟩⟩
 | @loc n a en =>
  obtain ⟨ob,eo,rob⟩:=rh.obj en
  dsimp only[tyP] at e
  rw[eo] at e
  cases ru
  cases ob with
  | lst xs =>
   cases e
   obtain ⟨ys,ey,_⟩:=rob
   obtain ⟨its,rv,⟨o,m,e1,e2,_,e3⟩,_⟩:=I.list (SqL.of (K:=X.K) ey)
   exact ⟨by simp,(fun z=>nomatch z),_,PySem.W.kitx_list,⟨o,e1,e2⟩⟩
  | dic kvs =>
   cases e
   obtain ⟨_,ey⟩:=rob
   obtain ⟨_,_,vs,_,p⟩:=(show ObjOk X.prog X.w H s.heap a (.dK []) from I.hok a _ ey)
   obtain ⟨o,es,ep,h1,h2,_⟩:=p
   exact ⟨by simp,(fun z=>nomatch z),_,PySem.W.kitx_dict,⟨o,h1,h2.1⟩⟩
  | exc x=>cases e
theorem bT (g:Good X N W G k) {a:Expr} {m:Mx PV} {T:String} {c:Str} {i j:Nat} {p q pos:Pos} (hi:G[i]?=some "isinstance") (hm:X.mg "isinstance"=none) (hj:G[j]?=some c) (hc:X.mg c=none) (hv:bootBuiltins c=some (.type T)) (hT:okT T) (ha:ME X a m)
  (he:starEach [a,.Name c q] X.env=(false,eval a X.env)::starEach [.Name c q] X.env:=by rfl) (he2:starEach [.Name c q] X.env=[(false,eval (.Name c q) X.env)]:=by rfl) (hpl:(backTo pos (starEach [.Name c q] X.env)).any (·.1)=false:=by rfl) :
  ME X (.Call (.Name "isinstance" p) [a,.Name c q] [] pos) (mUn (fIsi [T]) m):=by
 have d1:=g.dbg _ (List.mem_append_right _ (ay hi))
 have d:=g.dbg c (List.mem_append_right _ (ay hj))
 have hcall:bH X (.builtin "isinstance") (fun xs H Q=>∃x',xs=[x',.ty T]∧uJ X (fIsi [T]) x' H Q):=by
  intro pins s σ H xs us Q I r ⟨x',e,ρ,h,x,rh,rx,q⟩
  subst e
  cases r with
  | cons r1 t1=>cases t1 with
   | cons r2 t2 =>
    cases t2
    obtain rfl:=(show _=Value.type T from r2)
    unfold fIsi at q
    cases et:tyP h x with
    | none=>rw[et] at q;exact q.elim
    | some t =>
     rw[et] at q
     obtain ⟨ht,hne,Hq,Z,hz⟩:=kitx_of I rh rx r1 et
     exact PySem.W.kia_one Z I.kIn hz (hT X.K t ht) hne fun tk=>⟨.bl _,H,I.tok _,rfl,by
      have q':=q ρ H _ (Le.refl _ _) rh (.bl _)
      simpa using q'⟩
 refine PE.imp (dU hcall (g.gl _ (ay hi)) hm PyProof.Rows.Boot.«isinstance» (de ha (de (pe_bltn (v:=.ty T) (u:=.type T) (g.gl c (ay hj)) hc hv rfl d.2.2 d.1) fq he2) he) d1.2.2 d1.1 he hpl) fun σ H Q ⟨ρ,σp,h,rs,rh,q⟩=>?_
 exact ⟨ρ,σp,h,rs,rh,Ful.bind q fun ρ1 H1 x x' h1 _ l1 rh1 rx q1=>⟨x',rfl,ρ1,h1,x,rh1,rx,q1.zero⟩⟩
def spM (K:PySem.W.Frag) (mg:MGl) (F:List PV→MH→Out PV):Sp:=fun vs H Q E=>∃ρ ps h,RPs K ρ H ps vs∧RH K mg ρ H h∧match F ps h with
 | .ok v h'=>∀ρ' H' v',Le ρ H ρ' H'→RH K mg ρ' H' h'→RP K ρ' H' v v'→Q v' H'
 | .exc x h'=>∀C ρ' H',x.fs=[]→mg x.cls=some (.ref C)→Le ρ H ρ' H'→RH K mg ρ' H' h'→E (.ref C) none H'
 | .bad=>False
def CXm (P:Program) (w:World):CXT:=fun outer H s E e s'=>∃ea C H',e=.ref ea∧s'.os=s.os∧AllBare s'.gens∧Un (frs outer) [] H H' s.heap s'.heap∧HOk P w H' s'.heap∧Fly outer H' s.heap C ea s'.heap∧E (.ref C) none H'
structure Cal (X:Cx) (x:Str) (ps:List Str) (F:List PV→MH→Out PV) (k:Nat):Prop where
 ex:∃f fd,X.mg x=some (.ref f)∧PySem.W.keepIn X.K (.ref f)=true∧cN X.K fd ps []∧FnOk X.prog X.w X.K X.mg X.base (CXm X.prog X.w) k f fd ps (spM X.K X.mg F)
def ap (F:List PV→MH→Out PV) (m:Mx (List PV)):Mx PV:=fun σ h=>(m σ h).bind F
theorem ao (g:Good X N W G k) {x:Str} {j:Nat} (hj:G[j]?=some x) {ps:List Str} {F:List PV→MH→Out PV} (C:Cal X x ps F k) {e:Expr} {es:List Expr} {m:Mx (List PV)} {p pos:Pos} (ha:MA X (e::es) m)
  (he:starEach (e::es) X.env=(false,eval e X.env)::starEach es X.env:=by rfl) (hpl:(backTo pos (starEach es X.env)).any (·.1)=false:=by rfl):ME X (.Call (.Name x p) (e::es) [] pos) (ap F m):=by
 obtain ⟨f,fd,hm,hk,hb,F'⟩:=C.ex
 have d:=g.dbg x (List.mem_append_right _ (ay hj))
 intro pins s σ H Q I ⟨ρ,σp,h,rs,rh,q⟩
 refine wpAny_Call_Name_kw (ld_glob I (g.gl x (ay hj)) hm ?_ d.1)
 refine PySem.W.callWith_K (h₀:=X.base) I.ok.mod.kin hk (thn (ha pos pins s σ H (fun vs H1=>∃ρ1 xs h1,Le ρ H ρ1 H1∧RH X.K X.mg ρ1 H1 h1∧RPs X.K ρ1 H1 xs vs∧Ful X (RV' X) σp ρ1 H1 (F xs h1) Q) I
  ⟨ρ,σp,h,rs,rh,Ful.bind q fun ρ1 H1 xs vs h1 _ l1 rh1 rx q1=>⟨ρ1,xs,h1,l1,rh1,rx,q1⟩⟩) fun us s1 ⟨vs,H1,I1,r,ρ1,xs,h1,l1,rh1,rx,q1⟩=>⟨I1.kIn,?_⟩) he hpl
 have run:∀E:XK,spM X.K X.mg F vs H1 Q E→(∀ea C H' s',s'.os=s1.os→AllBare s'.gens→Un (frs X.stack) [] H1 H' s1.heap s'.heap→HOk X.prog X.w H' s'.heap→Fly X.stack H' s1.heap C ea s'.heap→E (.ref C) none H'→X.xe (.ref ea) s') →
   wpAny (model X.prog X.w) X.A (call (.ref f) us) (EP X pins σ Q) X.xe s1:=fun E hsp hE=>by
  have hl:(us++[]).length=ps.length:=by rw[List.append_nil,←r.length];exact F'.len _ _ _ _ hsp
  have hb1:=hb s1 us I1.kIn hl
  rw[List.append_nil] at hb1
  refine wpAny_call (codeAny_mono (F'.run X.A X.stack s1 H1 ⟨us,[]⟩ us vs Q E g.room I1.env0 hb1 r hsp) fun r s' hq=>?_)
  cases r with
  | error e =>
   obtain ⟨ea,C,H',rfl,a1,a2,a3,a4,a5,a6⟩:=hq
   exact hE ea C H' s' a1 a2 a3 a4 a5 a6
  | ok fl =>
   cases fl with
   | ret u=>exact I1.after hq
   | next=>exact False.elim hq
   | brk=>exact False.elim hq
   | cont=>exact False.elim hq
 cases eF:F xs h1 with
 | bad=>rw[eF] at q1;exact q1.elim
 | ok v h' =>
  rw[eF] at q1
  exact run (fun _ _ _=>False) ⟨ρ1,xs,h1,rx,rh1,by rw[eF];exact q1⟩ fun _ _ _ _ _ _ _ _ _ z=>z.elim
 | exc x' h' =>
  rw[eF] at q1
  refine run (fun c _ H'=>∃C ρ',c=.ref C∧x'.fs=[]∧X.mg x'.cls=some (.ref C)∧Le ρ1 H1 ρ' H'∧RH X.K X.mg ρ' H' h') ⟨ρ1,xs,h1,rx,rh1,by rw[eF];exact fun C ρ' H' a b c d=>⟨C,ρ',rfl,a,b,c,d⟩⟩ fun ea C H' s' a1 a2 a3 a4 a5 a6=>?_
  obtain ⟨C',ρ',eC,b1,b2,b3,b4⟩:=a6
  cases eC
  have IX:=I1.call' (s':=s') (ch:=[]) a1 a3 a4 a2 (fun b z=>absurd z (by simp))
  have IX0:Inv X [] σ H' s':=Inv.unpinned (pins:=[]) (pl:=pins) IX
  exact q1 ea C ρ' H' σ s' s1.heap b1 b2 b3 b4 (rs.le (l1.trans b3)) IX0 (Inv.bears I1) a5
def al (n:Nat) (ps:List PV):PSt:=ps.map some++List.replicate (n - ps.length) none
noncomputable def mDef (n np:Nat) (m:Mst):List PV→MH→Out PV:=fun ps h=>if ps.length=np then (match m (al n ps) h with
 | .nx _ h'=>.ok .non h'
 | .rt v h'=>.ok v h'
 | .exc x _ h'=>.exc x h'
 | .rse x _ h'=>.exc x h'
 | _=>.bad) else .bad
theorem fZ {K:PySem.W.Frag} {ρ:List Addr} {H:Hp} {N:List Str} {ps:List PV} {vs:List V} (r:RPs K ρ H ps vs):RS K ρ H (al N.length ps) (L2.start N vs):=by
 have hl:=r.length
 refine ⟨by simp[al,L2.start,hl],fun i v e=>?_⟩
 unfold al at e
 by_cases hi:i<ps.length
 ·rw[List.getElem?_append_left (by simpa using hi),List.getElem?_map] at e
  cases q:ps[i]? with
  | none=>rw[q] at e;cases e
  | some x =>
   rw[q] at e
   cases e
   obtain ⟨v',e',rv⟩:=r.get q
   refine ⟨v',?_,rv⟩
   unfold L2.start
   rw[List.getElem?_append_left (by simp;omega),List.getElem?_map,e'];rfl
 ·rw[List.getElem?_append_right (by simpa using hi),List.getElem?_replicate] at e
  split at e <;> cases e
theorem ga {B h:Heap} (k:B.StaysIn h) {b:Addr} {o ob:Obj} (e1:B.get? b=some ob) (e2:h.get? b=some o):ob=o:=by
 have:=k b ob e1
 rw[e2] at this
 exact (Option.some.inj this).symm
theorem eG {X:Cx} {σ':L2.St} {H':Hp} {s':Shared} {h' B:Heap} (I:Inv X [] σ' H' s') (hex:X.ex=[]) (hB:B.StaysIn s'.heap) (hB':B.StaysIn h') (sm:s'.heap.UpToSlots h')
  (cov:∀b o,X.s₀.heap.get? b=some o→b∉X.fs→∃ob,B.get? b=some ob) (cvH:∀b o,H' b=some o→∃ob,B.get? b=some ob):Un X.fs [] X.H₀ H' X.s₀.heap h'∧HOk X.prog X.w H' h':=by
 have nex:∀b:Addr,b∉X.ex:=fun b=>by rw[hex];simp
 have kp:∀b o ob,B.get? b=some ob→s'.heap.get? b=some o→h'.get? b=some o:=fun b o ob e1 e2=>by
  have:=ga hB e1 e2
  subst this
  exact hB' b ob e1
 refine ⟨⟨fun b o e n hf _=>?_,fun b o e n hf _=>?_,fun b o e n _=>I.base.free b o e n (nex b),fun b o e _=>?_,I.base.tups,I.base.frzs,I.base.tbls⟩,fun a o e=>?_⟩
 ·obtain ⟨ob,eb⟩:=cov b o e hf
  exact kp b o ob eb (I.base.keep b o e n hf (nex b))
 ·obtain ⟨sl,e1⟩:=I.base.slot b o e n hf (nex b)
  obtain ⟨_,oF,eF,dF⟩:=I.ok.funs.mem hf
  rw[e] at eF
  cases eF
  obtain ⟨sl',e2⟩:=sm b _ e1 (fun vs z=>dF vs z)
  exact ⟨sl',e2⟩
 ·by_cases hf:b∈X.fs
  ·obtain ⟨_,oF,eF,dF⟩:=I.ok.funs.mem hf
   rw[e] at eF
   cases eF
   obtain ⟨sl,e1⟩:=I.base.slot b o e (I.ok.frf b hf) hf (nex b)
   obtain ⟨sl',e2⟩:=sm b _ e1 (fun vs z=>dF vs z)
   exact ⟨_,e2⟩
  ·obtain ⟨ob,eb⟩:=cov b o e hf
   exact ⟨ob,hB' b ob eb⟩
 ·refine (I.hok a o e).stay (fun b u hb z=>?_) (fun _ z=>z) fun _ _ z=>z
  rcases hb with rfl|hb
  ·obtain ⟨ob,eb⟩:=cvH _ _ e
   exact kp _ u ob eb z
  ·obtain ⟨ob,eb⟩:=cvH _ _ hb
   exact kp _ u ob eb z
theorem _root_.L2.ObjOk.has {P:Program} {w:World} {H:Hp} {h:Heap} {a:Addr} {o:HO} (x:ObjOk P w H h a o):∃u,h.get? a=some u:=by
 cases o with
 | lst xs=>obtain ⟨_,_,_,_,e⟩:=x;exact ⟨_,e⟩
 | tup xs=>obtain ⟨_,_,_,o,e,_⟩:=x;exact ⟨o,e⟩
 | dK kvs=>obtain ⟨_,_,_,_,o,_,_,e,_⟩:=x;exact ⟨o,e⟩
 | dT kvs=>obtain ⟨_,_,_,_,o,_,_,e,_⟩:=x;exact ⟨o,e⟩
 | set S n=>obtain ⟨o,_,_,_,e,_⟩:=x;exact ⟨o,e⟩
 | ins C dx fs=>obtain ⟨_,_,_,e,_⟩:=x;exact ⟨_,e⟩
 | own y=>obtain ⟨o,e⟩:=x;exact ⟨o,e⟩
 | xd fs=>obtain ⟨_,⟨o,_,_,e,_⟩,_⟩:=x;exact ⟨o,e⟩
 | rng lo hi=>obtain ⟨_,_,_,e⟩:=x;exact ⟨_,e⟩
 | frz ob u=>obtain ⟨e,_⟩:=x;exact ⟨_,e⟩
 | tbl ps=>exact ⟨_,(show h.get? a=some _ from x)⟩
 | met f y=>exact ⟨_,(show h.get? a=some _ from x)⟩
 | ext φ=>obtain ⟨_,⟨o,e⟩,_⟩:=x;exact ⟨o,e⟩
structure DefCx (X:Cx):Prop where
 stk:X.stack=X.env::X.outer
 fr:X.env.frame=some X.env.locals
 ex:X.ex=[]
theorem fn_M {P:Program} {w:World} {K:PySem.W.Frag} {mg:Str→Option Value} {base:Heap} {x qual:Str} {st:Stmt} {f:Addr} {fd:FuncData} {ps:List Str} {m:Mst} (Fu:Fun K x qual st f fd) (S:FnScope N ps (af st))
  (hl:∀y∈N,Loc (af st) y) (hgl:∀y∈G,(af st).names.lookup y=some .globalImplicit)
  (dbg:∀x∈N++G,(x == ("__debug__":Str))=false∧(x == ("__classdict__":Str))=false∧x≠"__name__")
  (hb:∀X:Cx,X.prog=P→X.w=w→X.K=K→X.mg=mg→X.base=base→X.env.scope=af st→Good X N N G k→DefCx X→MSs X (ar st) m) :
  FnOk P w K mg base (CXm P w) (k+1) f fd ps (spM K mg (mDef N.length ps.length m)):=by
 have len:∀vs H Q E,spM K mg (mDef N.length ps.length m) vs H Q E→vs.length=ps.length:=by
  rintro vs H Q E ⟨ρ,zs,h,r,rh,q⟩
  rw[←r.length]
  unfold mDef at q
  by_cases hp:zs.length=ps.length
  ·exact hp
  ·rw[if_neg hp] at q;exact q.elim
 obtain ⟨oc,od,kV,doc,pm,an,cdv,ct,osl,rfl,lk,hcd⟩:=Fu.ex
 refine fn_of lk hcd S len fun A outer s H vs Q E hr hsp=>?_
 obtain ⟨ρ,zs,h,r,rh,q⟩:=hsp
 refine ⟨_,hb _ rfl rfl rfl rfl rfl rfl ⟨rfl,S.nd,hl,fun _ _=>.inl rfl,hgl,dbg,rfl,hr,PassesOwn.leaving⟩ ⟨rfl,rfl,rfl⟩,ρ,al N.length zs,h,fZ r,rh,?_⟩
 unfold mDef at q
 by_cases hp:zs.length=ps.length
 ·rw[if_pos hp] at q
  cases e:m (al N.length zs) h with
  | nx σ' h'=>rw[e] at q;exact fun ρ' H' σ' l r' s'=>q ρ' H' .non l r' .non
  | rt v h'=>rw[e] at q;exact q
  | bk σ h'=>rw[e] at q;exact q.elim
  | ct σ h'=>rw[e] at q;exact q.elim
  | bad=>rw[e] at q;exact q.elim
  | exc x σ h' =>
   rw[e] at q
   intro ea C ρ' H' σ' s' lim hfs hmg l rh' rs' I' brs fly
   obtain ⟨B,t,hfl,hBH,hcov,hea⟩:=fly
   refine wpAny_leaves_onW (base:=B) (env:=envOfC qual (af st) s.heap.objs.size f cdv) (outer:=outer) I'.ok.frames rfl hfl fun h'' hfl' sm=>?_
   have hb1:∀b o,s.heap.get? b=some o→b∉frs outer→∃ob,B.get? b=some ob:=fun b o eb hf=>by
    obtain ⟨o',e'⟩:=brs.old b o eb (by show b∉([]:List Addr);simp)
    refine hcov b o' e' fun hm=>?_
    rcases List.mem_cons.mp (I'.stkSub b hm) with z|z
    ·exact absurd (Heap.lt_size eb) (by rw[z];exact Nat.lt_irrefl _)
    ·exact hf z
   obtain ⟨un,hk'⟩:=eG (B:=B) I' rfl hfl.1 hfl'.1 sm hb1 hBH
   exact ⟨ea,C,H',rfl,I'.os,I'.bare,un,hk',⟨B,t,hfl',hBH,hb1,hea⟩,q C ρ' H' hfs hmg l rh'⟩
  | rse x σ h' =>
   rw[e] at q
   intro ea C ρ' H' σ' s' h0 args hfs hmg l rh' rs' I' made
   have hst:=I'.stack
   have hin:∀env∈(envOfC qual (af st) s.heap.objs.size f cdv::outer),∀b,env.frame=some b→b∈frs (envOfC qual (af st) s.heap.objs.size f cdv::outer):=fun env he b hb=>List.mem_filterMap.mpr ⟨env,he,hb⟩
   refine wpAny_leaves_madeW (base:=PySem.W.hideAll h0 (frs (envOfC qual (af st) s.heap.objs.size f cdv::outer))) (h:=h0) (env:=envOfC qual (af st) s.heap.objs.size f cdv) (outer:=outer) I'.ok.frames rfl (fun b o z=>PySem.W.of_hideAll _ z)
    (PySem.W.funFrames_hide (base:=base) hst hin) made fun h'' t hfl' _ _ sm=>?_
   have sub:∀b,b∈frs (envOfC qual (af st) s.heap.objs.size f cdv::outer)→b=s.heap.objs.size∨b∈frs outer:=fun b hm=>List.mem_cons.mp (I'.stkSub b hm)
   have hb1:∀b o,s.heap.get? b=some o→b∉frs outer→∃ob,(PySem.W.hideAll h0 (frs (envOfC qual (af st) s.heap.objs.size f cdv::outer))).get? b=some ob:=fun b o eb hf=>by
    obtain ⟨o',e'⟩:=I'.base.there b o eb (by show b∉([]:List Addr);simp)
    refine ⟨o',PySem.W.hideAll_get _ e' fun hm=>?_⟩
    rcases sub b hm with z|z
    ·exact absurd (Heap.lt_size eb) (by rw[z];exact Nat.lt_irrefl _)
    ·exact hf z
   have hBH:∀b o,H' b=some o→∃ob,(PySem.W.hideAll h0 (frs (envOfC qual (af st) s.heap.objs.size f cdv::outer))).get? b=some ob:=fun b o eb=>by
    have hlt:=I'.hok.lt eb
    obtain ⟨u,eu⟩:∃u,h0.get? b=some u:=(I'.hok b o eb).has
    refine ⟨u,PySem.W.hideAll_get _ eu fun hm=>?_⟩
    have:=I'.stkFree b hm
    rw[eb] at this;cases this
   have sm0:h0.UpToSlots h'':=(Heap.UpToSlots.of_keeps made.keeps).trans sm
   obtain ⟨un,hk'⟩:=eG (B:=PySem.W.hideAll h0 (frs (envOfC qual (af st) s.heap.objs.size f cdv::outer))) I' rfl (fun b o z=>PySem.W.of_hideAll _ z) hfl'.1 sm0 hb1 hBH
   have hea:H' ea=none:=by
    cases z:H' ea with
    | none=>rfl
    | some o =>
     obtain ⟨u,eu⟩:=(I'.hok ea o z).has
     rw[made.new] at eu;cases eu
   exact ⟨ea,C,H',rfl,I'.os,I'.bare,un,hk',⟨_,t,hfl',hBH,hb1,hea⟩,q C ρ' H' hfs hmg l rh'⟩
 ·rw[if_neg hp] at q;exact q.elim
noncomputable def itAny (v:PV) (h:MH):Out MIt:=match v with
 | .loc n=>(match h[n]? with
  | some (.lst xs)=>.ok ⟨xs,[(n,xs)]⟩ h
  | _=>.bad)
 | .frl xs=>.ok ⟨xs,[]⟩ h
 | .tup xs=>.ok ⟨xs,[]⟩ h
 | _=>.bad
noncomputable def mItS (m:Mx PV):Mx MIt:=fun σ h=>(m σ h).bind itAny
theorem fz {tg l:Expr} {m:Mx PV} (hl:ME X l m):MI X tg l (mItS m):=by
 intro pins s σ H R I ⟨ρ,σp,h,rs,rh,q⟩
 by_cases z:∃xs h1,m σp h=.ok (.tup xs) h1
 ·obtain ⟨xs,h1,e⟩:=z
  refine mi_tup (tg:=tg) hl pins s σ H R I ⟨ρ,σp,h,rs,rh,?_⟩
  unfold mItS at q
  unfold mItT
  rw[e] at q ⊢
  exact q
 ·refine mi_list (tg:=tg) hl pins s σ H R I ⟨ρ,σp,h,rs,rh,?_⟩
  unfold mItS at q
  unfold mItL
  cases e:m σp h with
  | ok v h1 =>
   rw[e] at q
   cases v with
   | tup xs=>exact absurd ⟨xs,h1,e⟩ z
   | _=>exact q
  | exc x h1=>rw[e] at q;exact q
  | bad=>rw[e] at q;exact q
theorem Inv.bigM {pins:List (Addr × Obj)} {σ:L2.St} {H:Hp} {s:Shared} (I:Inv X pins σ H s):sysModules<s.heap.objs.size:=by
 have h:mainGlobals<s.heap.objs.size:=(I.mod.glob.keeps I.bk).lt
 exact Nat.lt_trans (by decide) h
def mDic:Mx PV:=fun _ h=>.ok (.loc h.length) (h++[.dic []])
theorem eA {pos:Pos}:ME X (.Dict [] [] pos) mDic:=fun pins s σ H Q I ⟨ρ,σp,h,rs,rh,q⟩=>by
 have hf:H s.heap.objs.size=none:=I.hok.fresh (Nat.le_refl _)
 obtain ⟨r1,l1⟩:=rh.new hf (o:=.dic []) (ho:=.dK []) ⟨rfl,rfl⟩
 refine wpAny_Dict_empty ⟨.ref s.heap.objs.size,_,I.laid (a:=s.heap.objs.size) (o:=.dK []) (t':=s.toks) (fun _ _ q=>Heap.get?_push_of_some _ q) (Nat.le_refl _) ?_,rfl,q _ _ _ l1 r1 (.loc (by rw[←rh.len];simp))⟩
 exact ⟨Nat.zero_le _,beq_eq_false_iff_ne.mpr (Ne.symm (Nat.ne_of_lt (Inv.bigM I))),[],.nil,Heap.DictOf.new s.heap⟩
structure FnAt (P:Program) (w:World) (K:PySem.W.Frag) (mg:Str→Option Value) (base:Heap) (x:Str) (ps:List Str) (F:List PV→MH→Out PV) (k:Nat):Prop where
 ex:∃f fd,mg x=some (.ref f)∧PySem.W.keepIn K (.ref f)=true∧cN K fd ps []∧FnOk P w K mg base (CXm P w) k f fd ps (spM K mg F)∧∃oc od osl,K.lookup f=some ⟨oc,od,.func fd,osl⟩
theorem FnAt.mono {P:Program} {w:World} {K:PySem.W.Frag} {mg:Str→Option Value} {base:Heap} {x:Str} {ps:List Str} {F:List PV→MH→Out PV} {i j:Nat} (c:FnAt P w K mg base x ps F i) (h:i≤j):FnAt P w K mg base x ps F j :=
 let ⟨f,fd,a,b,d,e,z⟩:=c.ex;⟨f,fd,a,b,d,e.mono h,z⟩
theorem FnAt.cal {P:Program} {w:World} {K:PySem.W.Frag} {mg:Str→Option Value} {base:Heap} {x:Str} {ps:List Str} {F:List PV→MH→Out PV} {i:Nat} (c:FnAt P w K mg base x ps F i) {X:Cx} (e1:X.prog=P) (e2:X.w=w) (e3:X.K=K) (e4:X.mg=mg) (e5:X.base=base):Cal X x ps F i:=by
 subst e1;subst e2;subst e3;subst e4;subst e5
 obtain ⟨f,fd,a,b,d,e,_⟩:=c.ex
 exact ⟨f,fd,a,b,d,e⟩
structure DefAt (K:PySem.W.Frag) (x:Str) (st:Stmt):Prop where
 ex:∃f fd,PySem.W.nsIn K mainGlobals x=some (some (.ref f))∧Fun K x x st f fd
theorem defAt_mk {K:PySem.W.Frag} {x:Str} {st:Stmt} {f:Addr} {oc:Value} {od an:Option Addr} {sl:Array (Option Value)} {kV dc pm cd ct:Value}
  (a:PySem.W.nsIn K mainGlobals x=some (some (.ref f))) (l:K.lookup f=some ⟨oc,od,.func (PySem.W.fnOf x x (bN st) (ar st) (af st) .none kV dc pm an cd ct),sl⟩) (c:PySem.W.codeIn K cd x=true) (kp:PySem.W.keepIn K (.ref f)=true):DefAt K x st :=
 ⟨f,_,a,fun_mk l c kp⟩
def aG (x:Str) (st:Stmt) (ps:List Str):Prop:=∀(kV doc pm:Value) (an:Option Addr) (cdv ct:Value) (us:List Value),us.length=ps.length→bindArgs (PySem.W.fnOf x x (bN st) (ar st) (af st) .none kV doc pm an cdv ct) ⟨us,[]⟩=pure (ps.zip us)
theorem aZ {P:Program} {w:World} {K:PySem.W.Frag} {mg:Str→Option Value} {base:Heap} {x:Str} {st:Stmt} {ps:List Str} {m:Mst} (kin:K.In base) (ns:base.Ns mainGlobals mg) (D:DefAt K x st) (S:FnScope N ps (af st)) (B:aG x st ps)
  (hl:∀y∈N,(af st).names.lookup y=some .local∨(af st).names.lookup y=some .cell) (hgl:∀y∈G,(af st).names.lookup y=some .globalImplicit)
  (dbg:∀x∈N++G,(x == ("__debug__":Str))=false∧(x == ("__classdict__":Str))=false∧x≠"__name__")
  (hb:∀X:Cx,X.prog=P→X.w=w→X.K=K→X.mg=mg→X.base=base→X.env.scope=af st→Good X N N G k→DefCx X→MSs X (ar st) m) :
  FnAt P w K mg base x ps (mDef N.length ps.length m) (k+1):=by
 obtain ⟨f,fd,a,Fu⟩:=D.ex
 have Fx:=Fu.ex
 obtain ⟨oc,od,kV,doc,pm,an,cdv,ct,osl,e1,e2,_⟩:=Fx
 exact ⟨f,fd,PySem.W.mg_of kin ns a,Fu.kp,Fu.binds B,fn_M Fu S hl hgl dbg hb,oc,od,osl,e2⟩
theorem head_M {P:Program} {w:World} {K:PySem.W.Frag} {mg:Str→Option Value} {h:Heap} {x y:Str} {st:Stmt} {F:List PV→MH→Out PV} {fa:Addr} (D:DefAt K x st) (B:aG x st [y]) (hmg:mg x=some (.ref fa)) (kin:K.In h) (ns:h.Ns mainGlobals mg)
  (H:∀base:Heap,K.In base→base.Ns mainGlobals mg→FnAt P w K mg base x [y] F k) :
  ∃fd:FuncData,(∀(s:Shared) (u:Value),BindsTo s fd ⟨[u],[]⟩ [(y,u)])∧∀base:Heap,K.In base→base.Ns mainGlobals mg→FnOk P w K mg base (CXm P w) k fa fd [y] (spM K mg F):=by
 obtain ⟨f,fd,a,Fu⟩:=D.ex
 have e:=hmg.symm.trans (PySem.W.mg_of kin ns a)
 cases e
 obtain ⟨oc,od,kV,doc,pm,an,cdv,ct,osl,e1,e2,e3⟩:=Fu.ex
 refine ⟨fd,fun s u=>.of_eq ?_,fun base kb nb=>?_⟩
 ·rw[e1];exact B kV doc pm an cdv ct [u] rfl
 ·obtain ⟨f',fd',g1,g2,g3,g4,oc',od',osl',g5⟩:=(H base kb nb).ex
  rw[hmg] at g1
  cases g1
  rw[e2] at g5
  cases g5
  exact g4
def spLaw (K:PySem.W.Frag):Sp:=fun vs H Q _=>∃(a:Addr) (ns:List Int),vs=[.ref a]∧SqF K H a (ns.map V.int)∧ns.length≤63∧∀H',Q (.bl true) H'
theorem walk_M {l:PySem.W.OpenLaw} {q:Program} {loose:List Str} {XP:(Str→Option Value)→Heap→Prop} {YP:World→Heap→Prop} {d:DefRec} {K:Params→PySem.W.Frag} {x:Str} {F:List PV→MH→Out PV} (hn:l.most=some 63) (hdf:d.params.defaults=[]) (hr:Room k callerA)
  (hY:∀(w:World) (h:Heap),YP w h→(K w.params).In h)
  (HF:∀(w:World) (mg:Str→Option Value) (fa:Addr) (h:Heap),(K w.params).In h→h.Ns mainGlobals mg→mg d.name=some (.ref fa) →
   ∃fd:FuncData,(∀(s:Shared) (u:Value),BindsTo s fd ⟨[u],[]⟩ [(x,u)])∧∀base:Heap,(K w.params).In base→base.Ns mainGlobals mg→FnOk l.prog w (K w.params) mg base (CXm l.prog w) k fa fd [x] (spM (K w.params) mg F))
  (ht:∀ns:List Int,ns.length≤63→∃h',F [.frl (ns.map .int)] []=.ok (.bl true) h') :
  PySem.W.WalkO q loose XP YP l.row.toRowW d [] (fun f vs=>PySem.call f vs):=by
 refine L2.walk_of (n:=63) (k:=k) (x:=x) (CX:=fun w=>CXm l.prog w) (sp:=fun w=>spLaw (K w.params)) hn (by decide) hdf hr hY (fun w mg fa h hK hns hmg=>?_) (fun w H a ns hl hO hS=>?_) fun w H s e s' z=>?_
 ·obtain ⟨fd,hb,hF⟩:=HF w mg fa h hK hns hmg
  refine ⟨fd,hb,fun base kb nb=>(hF base kb nb).imp fun vs H Q E z=>?_⟩
  obtain ⟨a,ns,rfl,sf,hl,hq⟩:=z
  obtain ⟨h',e⟩:=ht ns hl
  refine ⟨[],[.frl (ns.map .int)],[],.cons (.frl sf (RPs.ints ns)) .nil,⟨rfl,List.nodup_nil,fun n a o z _=>by simp at z⟩,?_⟩
  rw[e]
  intro ρ' H' v' _ _ r
  cases r
  exact hq H'
 ·have sf:SqF (K w.params) H a (ns.map V.int):=by
   rcases hS with (z|z)|z
   ·rcases hO a with y|⟨o,xs,y⟩
    ·rw[y] at z;cases z
    ·rw[y] at z;cases z
   ·exact .inl z
   ·exact .inr z
  exact ⟨a,ns,rfl,sf,hl,fun _=>rfl⟩
 ·obtain ⟨_,_,_,_,_,_,_,_,_,z⟩:=z
  exact z
end
section
variable {α:Type} {σ:PSt} {h:MH}
@[simp] theorem mC_ap {v:PV}:mC v σ h=.ok v h:=rfl
@[simp] theorem mVar_0 {v:PV} {r:PSt}:mVar 0 (some v::r) h=.ok v h:=rfl
@[simp] theorem mVar_s {i:Nat} {o:Option PV} {r:PSt}:mVar (i+1) (o::r) h=mVar i r h:=by simp[mVar]
@[simp] theorem mBin_ap {f:PV→PV→MH→Out PV} {a b:Mx PV}:mBin f a b σ h=(a σ h).bind fun x h1=>(b σ h1).bind fun y h2=>(f x y h2).ne:=rfl
@[simp] theorem mUn_ap {f:PV→MH→Out PV} {a:Mx PV}:mUn f a σ h=(a σ h).bind fun x h1=>(f x h1).ne:=rfl
@[simp] theorem mCB_ap {f:List PV→MH→Out PV} {a:Mx (List PV)}:mCB f a σ h=(a σ h).bind fun x h1=>(f x h1).ne:=rfl
@[simp] theorem mCall_ap {f:List PV→MH→Out PV} {a:Mx (List PV)}:ap f a σ h=(a σ h).bind f:=rfl
@[simp] theorem mNil_ap:mNil σ h=.ok [] h:=rfl
@[simp] theorem mCons_ap {a:Mx PV} {r:Mx (List PV)}:aa a r σ h=(a σ h).bind fun x h1=>(r σ h1).bind fun xs h2=>.ok (x::xs) h2:=rfl
@[simp] theorem mLst_ap {a:Mx (List PV)}:mLst a σ h=(a σ h).bind newL:=rfl
@[simp] theorem mTup_ap {a:Mx (List PV)}:mTup a σ h=(a σ h).bind newT:=rfl
@[simp] theorem mDic_ap:mDic σ h=.ok (.loc h.length) (h++[.dic []]):=rfl
@[simp] theorem mB_ap {a:Mx PV}:mB a σ h=(a σ h).bind fun v h1=>match v with | .bl b=>.ok b h1 | _=>.bad:=rfl
@[simp] theorem mNot_ap {a:Mx Bool}:mNot a σ h=(a σ h).bind fun b h1=>.ok (!b) h1:=rfl
@[simp] theorem mOr_ap {a b:Mx Bool}:mOr a b σ h=(a σ h).bind fun x h1=>if x=true then .ok true h1 else b σ h1:=rfl
@[simp] theorem mAndV_ap {a b:Mx PV}:bV a b σ h=(a σ h).bind fun x h1=>match x with | .bl c=>if c=true then b σ h1 else .ok (.bl false) h1 | _=>.bad:=rfl
@[simp] theorem mNotV_ap {a:Mx PV}:eW a σ h=(a σ h).bind fun x h1=>match x with | .bl c=>.ok (.bl (!c)) h1 | _=>.bad:=rfl
@[simp] theorem mSkip_ap:mSkip σ h=.nx σ h:=rfl
@[simp] theorem bv {a b:Mst}:mSeq a b σ h=(a σ h).then b:=rfl
@[simp] theorem dg {k:Mst}:(SOut.nx σ h).then k=k σ h:=rfl
@[simp] theorem then_rt {k:Mst} {v:PV}:(SOut.rt v h).then k=.rt v h:=rfl
@[simp] theorem then_bk {k:Mst}:(SOut.bk σ h).then k=.bk σ h:=rfl
@[simp] theorem then_ct {k:Mst}:(SOut.ct σ h).then k=.ct σ h:=rfl
@[simp] theorem then_rse {k:Mst} {x:MExc}:(SOut.rse x σ h).then k=.rse x σ h:=rfl
@[simp] theorem then_exc {k:Mst} {x:MExc}:(SOut.exc x σ h).then k=.exc x σ h:=rfl
@[simp] theorem then_bad {k:Mst}:SOut.bad.then k=.bad:=rfl
def Out.rt (o:Out PV) (σ:PSt):SOut:=match o with
 | .ok v h'=>.rt v h'
 | .exc x h'=>.exc x σ h'
 | .bad=>.bad
@[simp] theorem rt_ok {v:PV}:(Out.ok v h).rt σ=.rt v h:=rfl
@[simp] theorem rt_exc {x:MExc}:(Out.exc x h:Out PV).rt σ=.exc x σ h:=rfl
@[simp] theorem rt_bad:(Out.bad:Out PV).rt σ=.bad:=rfl
@[simp] theorem mRet_ap {m:Mx PV}:mRet m σ h=(m σ h).rt σ:=rfl
def Out.go {α:Type} (o:Out α) (σ:PSt) (k:α→Mst):SOut:=match o with
 | .ok v h'=>k v σ h'
 | .exc x h'=>.exc x σ h'
 | .bad=>.bad
@[simp] theorem eZ {v:α} {k:α→Mst}:(Out.ok v h).go σ k=k v σ h:=rfl
@[simp] theorem go_exc {x:MExc} {k:α→Mst}:(Out.exc x h:Out α).go σ k=.exc x σ h:=rfl
@[simp] theorem go_bad {k:α→Mst}:(Out.bad:Out α).go σ k=.bad:=rfl
@[simp] theorem mEx_ap {m:Mx α} {k:α→Mst}:mEx m k σ h=(m σ h).go σ k:=rfl
@[simp] theorem mIf_ap {c:Mx Bool} {a b:Mst}:mIf c a b σ h=(c σ h).go σ fun x=>if x=true then a else b:=rfl
@[simp] theorem mSet_ap {i:Nat} {m:Mx PV}:mSet i m σ h=(m σ h).go σ fun v σ h=>.nx (σ.set i (some v)) h:=rfl
@[simp] theorem mPar_ap {i j:Nat} {m:Mx (List PV)}:mPar i j m σ h=(m σ h).go σ fun vs σ h=>match vs with | [v,w]=>.nx ((σ.set i (some v)).set j (some w)) h | _=>.bad:=rfl
@[simp] theorem ek {m:Mx PV} {g:Mg}:mAsg m g σ h=(m σ h).go σ fun v σ h=>match g v σ h with | .nx σ2 h2=>.nx σ2 h2 | .exc x σ2 h2=>.exc x σ2 h2 | _=>.bad:=rfl
@[simp] theorem bQ {i:Nat} {v:PV}:gNm i v σ h=.nx (σ.set i (some v)) h:=rfl
@[simp] theorem fy:gNl [] σ h=.nx σ h:=rfl
@[simp] theorem fC {a:Mg} {r:Mgs} {v:PV} {vs:List PV}:gCn a r (v::vs) σ h=(a v σ h).then (r vs):=rfl
@[simp] theorem fK {r:Mgs} {n:Nat} {xs:List PV}:gTp r n (.tup xs) σ h=if xs.length=n then r xs σ h else .bad:=rfl
@[simp] theorem eQ {mi:Mx MIt} {g:Mg} {b:Mst}:mFor mi g b σ h=(mi σ h).go σ fun it=>mGo it g b it.xs:=rfl
@[simp] theorem mItS_ap {m:Mx PV}:mItS m σ h=(m σ h).bind itAny:=rfl
@[simp] theorem mItR1_ap {m:Mx (List PV)}:cs m σ h=(m σ h).bind fun vs h1=>match vs with
 | [.int j]=>if -(2 ^ 62)≤j∧j<2 ^ 62 then .ok ⟨aL 0 j.toNat,[]⟩ h1 else .bad
 | _=>.bad:=rfl
@[simp] theorem gSb_ap {mo mi:Mx PV} {v:PV}:gSb mo mi v σ h=(mo σ h).go σ fun o=>mEx mi fun i σ h=>match setL o i v h with
 | some h2=>.nx σ h2
 | none=>.bad:=rfl
def SOut.fin (o:SOut):Out PV:=match o with
 | .nx _ h'=>.ok .non h'
 | .rt v h'=>.ok v h'
 | .exc x _ h'=>.exc x h'
 | .rse x _ h'=>.exc x h'
 | _=>.bad
@[simp] theorem fin_exc {x:MExc}:(SOut.exc x σ h).fin=.exc x h:=rfl
@[simp] theorem fin_rse {x:MExc}:(SOut.rse x σ h).fin=.exc x h:=rfl
@[simp] theorem fin_rt {v:PV}:(SOut.rt v h).fin=.ok v h:=rfl
@[simp] theorem fin_nx:(SOut.nx σ h).fin=.ok .non h:=rfl
theorem aF {n np:Nat} {m:Mst} {ps:List PV} (e:ps.length=np):mDef n np m ps h=(m (al n ps) h).fin:=by unfold mDef;rw[if_pos e];rfl
end
theorem mWh_eq {c:Mx Bool} {b:Mst} {σ:PSt} {h:MH}:mWh c b σ h=(c σ h).go σ fun x=>if x=true then (fun σ h=>match b σ h with
   | .nx σ2 h2=>mWh c b σ2 h2
   | .ct σ2 h2=>mWh c b σ2 h2
   | .bk σ2 h2=>.nx σ2 h2
   | .rt v h2=>.rt v h2
   | .exc e σ2 h2=>.exc e σ2 h2
   | .rse e σ2 h2=>.rse e σ2 h2
   | .bad=>.bad) else mSkip:=by
 have one:∀n,mWhN c b (n+1) σ h=(c σ h).go σ fun x=>if x=true then (fun σ h=>match b σ h with
   | .nx σ2 h2=>mWhN c b n σ2 h2
   | .ct σ2 h2=>mWhN c b n σ2 h2
   | .bk σ2 h2=>.nx σ2 h2
   | .rt v h2=>.rt v h2
   | .exc e σ2 h2=>.exc e σ2 h2
   | .rse e σ2 h2=>.rse e σ2 h2
   | .bad=>.bad) else mSkip:=fun n=>by rw[mWhN];rfl
 have flat:∀o:SOut,(∀n,mWhN c b (n+1) σ h=o)→mWh c b σ h=o:=fun o ho=>by
  by_cases z:o=.bad
  ·subst z
   unfold mWh
   rw[dif_neg]
   rintro ⟨n,q⟩
   cases n with
   | zero=>exact q rfl
   | succ n=>exact q (ho n)
  ·rw[dY (n:=1) (by rw[ho 0];exact z),ho 0]
 have step:∀σ2 h2,(∀n,mWhN c b (n+1) σ h=mWhN c b n σ2 h2)→mWh c b σ h=mWh c b σ2 h2:=fun σ2 h2 ho=>by
  by_cases z:∃n,mWhN c b n σ2 h2≠.bad
  ·obtain ⟨n,q⟩:=z
   rw[dY q,dY (n:=n+1) (by rw[ho n];exact q),ho n]
  ·have z':∀n,mWhN c b n σ2 h2=.bad:=fun n=>Classical.byContradiction fun q=>z ⟨n,q⟩
   have e2:mWh c b σ2 h2=.bad:=by unfold mWh;rw[dif_neg z]
   rw[e2]
   unfold mWh
   rw[dif_neg]
   rintro ⟨n,q⟩
   cases n with
   | zero=>exact q rfl
   | succ n=>exact q ((ho n).trans (z' n))
 cases e:c σ h with
 | bad=>exact flat _ fun n=>by rw[one,e];rfl
 | exc x h1=>exact flat _ fun n=>by rw[one,e];rfl
 | ok x h1 =>
  cases x with
  | false=>exact flat _ fun n=>by rw[one,e];rfl
  | true =>
   cases em:b σ h1 with
   | nx σ2 h2=>rw[step σ2 h2 fun n=>by rw[one,e];simp[em]];simp[em]
   | ct σ2 h2=>rw[step σ2 h2 fun n=>by rw[one,e];simp[em]];simp[em]
   | bk σ2 h2=>exact flat _ fun n=>by rw[one,e];simp[em]
   | rt v h2=>exact flat _ fun n=>by rw[one,e];simp[em]
   | exc x σ2 h2=>exact flat _ fun n=>by rw[one,e];simp[em]
   | rse x σ2 h2=>exact flat _ fun n=>by rw[one,e];simp[em]
   | bad=>exact flat _ fun n=>by rw[one,e];simp[em]
section
variable {h:MH} {i j:Int}
@[simp] theorem opAdd_ii:opAdd (.int i) (.int j) h=.ok (.int (i+j)) h:=rfl
@[simp] theorem opSub_ii:opSub (.int i) (.int j) h=.ok (.int (i - j)) h:=rfl
@[simp] theorem opNeg_i:opNeg (.int i) h=.ok (.int (-i)) h:=rfl
@[simp] theorem opLt_ii:opLt (.int i) (.int j) h=.ok (.bl (decide (i<j))) h:=rfl
@[simp] theorem opGt_ii:opGt (.int i) (.int j) h=.ok (.bl (decide (j<i))) h:=rfl
@[simp] theorem opGe_ii:opGe (.int i) (.int j) h=.ok (.bl (decide (j≤i))) h:=rfl
@[simp] theorem opEq_ii:opEq (.int i) (.int j) h=.ok (.bl (decide (i=j))) h:=by simp[opEq,rd,SeqAt.shaped,PyData.canLay0,PyData.depth,PyData.eqv,Bool.beq_eq_decide_eq]
@[simp] theorem opNe_ii:opNe (.int i) (.int j) h=.ok (.bl (!decide (i=j))) h:=by simp[opNe,rd,SeqAt.shaped,PyData.canLay0,PyData.depth,PyData.eqv,Bool.beq_eq_decide_eq]
@[simp] theorem opEq_bb {a b:Bool}:opEq (.bl a) (.bl b) h=.ok (.bl (a == b)) h:=by simp[opEq,rd,SeqAt.shaped,PyData.canLay0,PyData.depth,PyData.eqv]
@[simp] theorem opNe_bb {a b:Bool}:opNe (.bl a) (.bl b) h=.ok (.bl (!(a == b))) h:=by simp[opNe,rd,SeqAt.shaped,PyData.canLay0,PyData.depth,PyData.eqv]
theorem aQ (hj:j≠0):opMod (.int i) (.int j) h=.ok (.int (i.fmod j)) h:=by simp[opMod,hj]
theorem bM (hj:j≠0) (hl:j.natAbs.log2<9000):opFd (.int i) (.int j) h=.ok (.int (i.fdiv j)) h:=by simp[opFd,hj,PyProof.noPylong_of_log2 hl]
theorem aW (hl:-(2 ^ 64)<i∧i<2 ^ 64):opMul (.int i) (.int j) h=.ok (.int (i * j)) h:=by simp[opMul,IntMulOk.of_left (intBits_le_64 hl.1 hl.2)]
theorem opMul_r (hl:-(2 ^ 64)<j∧j<2 ^ 64):opMul (.int i) (.int j) h=.ok (.int (i * j)) h:=by simp[opMul,IntMulOk.of_right (intBits_le_64 hl.1 hl.2)]
theorem ce (hj:0≤j∧j≤1000000∧i.natAbs<2 ^ 64):opPow (.int i) (.int j) h=.ok (.int (i ^ j.toNat)) h:=by simp[opPow,CPow,hj]
@[simp] theorem fAbs_i:fAbs [.int i] h=.ok (.int (if i<0 then -i else i)) h:=rfl
@[simp] theorem fMin_ii:fMin [.int i,.int j] h=.ok (.int (if j<i then j else i)) h:=rfl
@[simp] theorem fLen_frl {xs:List PV}:fLen [.frl xs] h=.ok (.int xs.length) h:=rfl
@[simp] theorem fLen_tup {xs:List PV}:fLen [.tup xs] h=.ok (.int xs.length) h:=rfl
theorem bG {xs:List PV} (hl:xs.length≤1000):newT xs h=.ok (.tup xs) h:=by
 unfold newT;rw[if_pos (Nat.le_trans hl (by decide))]
theorem aN {xs:List PV} (hl:xs.length≤1000):newL xs h=.ok (.loc h.length) (h++[.lst xs]):=by
 unfold newL;rw[if_pos (Nat.le_trans hl (by decide))]
@[simp] theorem newT_0:newT [] h=.ok (.tup []) h:=bG (by decide)
@[simp] theorem newT_1 {a:PV}:newT [a] h=.ok (.tup [a]) h:=bG (by simp)
@[simp] theorem newT_2 {a b:PV}:newT [a,b] h=.ok (.tup [a,b]) h:=bG (by simp)
@[simp] theorem newT_3 {a b c:PV}:newT [a,b,c] h=.ok (.tup [a,b,c]) h:=bG (by simp)
theorem eL {n m:Nat} (hl:m<n):ixN n (m:Int)=some m:=by unfold ixN;rw[if_pos (by omega),if_pos (by omega)];simp
@[simp] theorem atI_0 {α:Type} {a:α} {r:List α}:atI (a::r) 0=some a:=b5 (j:=0) rfl
@[simp] theorem atI_1 {α:Type} {a b:α} {r:List α}:atI (a::b::r) 1=some b:=b5 (j:=1) rfl
@[simp] theorem atI_2 {α:Type} {a b c:α} {r:List α}:atI (a::b::c::r) 2=some c:=b5 (j:=2) rfl
@[simp] theorem atI_3 {α:Type} {a b c d:α} {r:List α}:atI (a::b::c::d::r) 3=some d:=b5 (j:=3) rfl
def Out.ofO (o:Option PV) (h:MH):Out PV:=match o with
 | some v=>.ok v h
 | none=>.bad
@[simp] theorem ofO_some {v:PV}:Out.ofO (some v) h=.ok v h:=rfl
@[simp] theorem opIx_tup {xs:List PV}:opIx (.tup xs) (.int i) h=Out.ofO (atI xs i) h:=rfl
@[simp] theorem opIx_frl {xs:List PV}:opIx (.frl xs) (.int i) h=Out.ofO (atI xs i) h:=rfl
theorem bR {n:Nat} {xs:List PV} (e:h[n]?=some (.lst xs)):opIx (.loc n) (.int i) h=Out.ofO (atI xs i) h:=by
 simp only[opIx,e];rfl
theorem cD {n:Nat} {xs:List PV} {v:PV} (e:h[n]?=some (.lst xs)):setL (.loc n) (.int i) v h=(ixN xs.length i).map fun p=>h.set n (.lst (xs.set p v)):=by simp only[setL,e]
theorem fm {n:Nat} {xs:List PV} (e:h[n]?=some (.lst xs)):itAny (.loc n) h=.ok ⟨xs,[(n,xs)]⟩ h:=by simp only[itAny,e]
@[simp] theorem itAny_tup {xs:List PV}:itAny (.tup xs) h=.ok ⟨xs,[]⟩ h:=rfl
@[simp] theorem itAny_frl {xs:List PV}:itAny (.frl xs) h=.ok ⟨xs,[]⟩ h:=rfl
theorem gf {n m:Nat} {xs ys:List PV} (e1:h[n]?=some (.lst xs)) (e2:h[m]?=some (.lst ys)):opAdd (.loc n) (.loc m) h=newL (xs++ys) h:=by simp only[opAdd,e1,e2]
@[simp] theorem bY {xs:List PV}:(⟨xs,[]⟩:MIt).ok h↔True:=⟨fun _=>trivial,fun _ p hp=>nomatch hp⟩
@[simp] theorem ok_some {xs zs:List PV} {n:Nat}:(⟨xs,[(n,zs)]⟩:MIt).ok h↔h[n]?=some (.lst zs):=by
 constructor
 ·intro q;exact q (n,zs) (by simp)
 ·intro q p hp
  have e:p=(n,zs):=List.mem_singleton.mp hp
  subst e;exact q
end
def SOut.turn (o:SOut) (k:Mst):SOut:=match o with
 | .nx σ2 h2=>k σ2 h2
 | .ct σ2 h2=>k σ2 h2
 | .bk σ2 h2=>.nx σ2 h2
 | .rt v h2=>.rt v h2
 | .exc e σ2 h2=>.exc e σ2 h2
 | .rse e σ2 h2=>.rse e σ2 h2
 | .bad=>.bad
@[simp] theorem turn_rse {σ:PSt} {h:MH} {x:MExc} {k:Mst}:(SOut.rse x σ h).turn k=.rse x σ h:=rfl
@[simp] theorem turn_exc {σ:PSt} {h:MH} {x:MExc} {k:Mst}:(SOut.exc x σ h).turn k=.exc x σ h:=rfl
@[simp] theorem turn_nx {σ:PSt} {h:MH} {k:Mst}:(SOut.nx σ h).turn k=k σ h:=rfl
@[simp] theorem turn_ct {σ:PSt} {h:MH} {k:Mst}:(SOut.ct σ h).turn k=k σ h:=rfl
@[simp] theorem turn_bk {σ:PSt} {h:MH} {k:Mst}:(SOut.bk σ h).turn k=.nx σ h:=rfl
@[simp] theorem turn_rt {v:PV} {h:MH} {k:Mst}:(SOut.rt v h).turn k=.rt v h:=rfl
theorem cy {it:MIt} {g:Mg} {b:Mst} {σ:PSt} {h:MH} (e:it.ok h):mGo it g b [] σ h=.nx σ h:=by
 rw[mGo];dsimp only;rw[if_pos e]
theorem bP {it:MIt} {g:Mg} {b:Mst} {x:PV} {r:List PV} {σ σ1:PSt} {h h1:MH} (e:it.ok h) (eg:g x σ h=.nx σ1 h1):mGo it g b (x::r) σ h=(b σ1 h1).turn (mGo it g b r):=by
 rw[mGo];dsimp only;rw[if_pos e,eg];rfl
theorem dP {c:Mx Bool} {b:Mst} {σ:PSt} {h:MH}:mWh c b σ h=(c σ h).go σ fun x=>if x=true then (fun σ h=>(b σ h).turn (mWh c b)) else mSkip:=mWh_eq
section
variable {X:Cx} {N W G:List Str} {k:Nat}
end
section
variable {X:Cx} {N W G:List Str} {k:Nat}
end
section
variable {X:Cx} {N W G:List Str} {k:Nat} {σ:L2.St} {H:Hp} {s:Shared}
end
section
variable {prog:Program} {w:World} {A:Around} {E:Value→Shared→Prop} {h:Heap} {g:Array GenState} {d:Drawn} {t:Nat} {os:OsState} {a C:Addr} {o:Obj} {K:PySem.W.Frag}
end
section
variable {X:Cx} {N W G:List Str} {k:Nat}
end
section
variable {X:Cx} {N W G:List Str} {k:Nat}
end
section
variable {X:Cx} {N W G:List Str} {k:Nat}
end
end MM
namespace MM
open PySem PySem.Spec PyProof.Rows L2
end MM
namespace MM
open PySem PySem.Spec PyProof.Rows L2
noncomputable local instance (priority:=1) cdec16 (p:Prop):Decidable p:=Classical.propDecidable p
section
variable {σ:PSt} {h:MH}
end
end MM
namespace MM
open PySem PySem.Spec PyProof.Rows L2
end MM
namespace MM
open PySem PySem.Spec PyProof.Rows L2
noncomputable local instance (priority:=1) cdec18 (p:Prop):Decidable p:=Classical.propDecidable p
section
variable {X:Cx} {N W G:List Str} {k:Nat}
variable {o e:Expr} {es:List Expr} {name:Str} {apos cpos:Pos} {id:String} {f:Nat→List PV→MH→Out PV} {m:Mx PV} {ma:Mx (List PV)}
end
end MM
namespace MM
open PySem PySem.Spec PyProof.Rows L2
end MM
namespace MM
open PySem PySem.Spec PyProof.Rows L2
noncomputable local instance (priority:=1) cdec20 (p:Prop):Decidable p:=Classical.propDecidable p
section
variable {X:Cx} {N W G:List Str} {k:Nat}
variable {a b c:Expr} {ma mb mc:Mx PV} {f g':PV→PV→MH→Out PV} {op op':CmpOp} {pos:Pos}
end
section
variable {X:Cx} {N W G:List Str} {k:Nat}
end
section
variable {X:Cx} {N W G:List Str} {k:Nat}
end
end MM
namespace SetT
end SetT
namespace SortT
end SortT
namespace MM
open PySem PySem.Spec PyProof.Rows L2 SetT SortT
section
variable {X:Cx} {pins:List (Addr × Obj)} {σ:L2.St} {H:Hp} {s:Shared}
end
section
variable {X:Cx} {N W G:List Str} {k:Nat}
end
end MM
namespace SeqT
open PySem
section
variable {prog:Program} {w:World} {A:Around} {E:Value→Shared→Prop} {s:Shared}
end
section
variable {prog:Program} {w:World} {A:Around} {E:Value→Shared→Prop} {s:Shared}
end
section
variable {prog:Program} {w:World} {A:Around} {E:Value→Shared→Prop} {s:Shared}
variable {z TI TO i1 i2 l1 l2:Addr} {t1 t2:Bool} {k1 k2:Nat} {xs ys:Array Value}
end
section
variable {prog:Program} {w:World} {A:Around} {E:Value→Shared→Prop} {s:Shared}
end
end SeqT
namespace MM
open PySem PySem.Spec PyProof.Rows L2 SeqT
section
variable {X:Cx} {pins:List (Addr × Obj)} {σ:L2.St} {H:Hp} {s:Shared}
end
section
variable {X:Cx} {N W G:List Str} {k:Nat}
end
end MM
namespace MM
open PySem PySem.Spec PyProof.Rows L2 SetT SortT
section
variable {X:Cx} {N W G:List Str} {k:Nat}
end
end MM
namespace MM
open PySem PySem.Spec PyProof.Rows L2
noncomputable local instance (priority:=1) cdec26 (p:Prop):Decidable p:=Classical.propDecidable p
end MM
namespace MM
open PySem PySem.Spec PyProof.Rows L2 SetT SortT
section
variable {h:MH} {i:Int} {xs:List PV} {n:Nat}
end
end MM
namespace MM
open PySem PySem.Spec PyProof.Rows L2
noncomputable local instance (priority:=1) cdec28 (p:Prop):Decidable p:=Classical.propDecidable p
section
variable {X:Cx} {N W G:List Str} {k:Nat}
end
end MM
namespace MM
open PySem PySem.Spec PyProof.Rows L2 PySem.W
noncomputable local instance (priority:=1) cdec29 (p:Prop):Decidable p:=Classical.propDecidable p
section
variable {X:Cx}
end
end MM
namespace Law
open PySem PySem.Spec PyProof.Rows L2 MM
set_option maxHeartbeats 4000000
noncomputable section
def m_is_whole:Mst:=(mRet (bV (mUn (fIsi ["int"]) (mVar 0)) (eW (mUn (fIsi ["bool"]) (mVar 0)))))
def be:List PV→MH→Out PV:=mDef 1 1 m_is_whole
def m_is_pair:Mst:=(mRet (bV (mUn (fIsi ["tuple"]) (mVar 0)) (mBin opEq (mCB fLen (aa (mVar 0) mNil)) (mC (.int 2)))))
def bo:List PV→MH→Out PV:=mDef 1 1 m_is_pair
def m_greatest_shared:Mst:=(mSeq (mWh (mB (mBin opNe (mVar 1) (mC (.int 0)))) (mSeq (mSet 2 (mBin opMod (mVar 0) (mVar 1)))
 (mSeq (mSet 0 (mVar 1))
 (mSet 1 (mVar 2)))))
 (mRet (mVar 0)))
def aD:List PV→MH→Out PV:=mDef 3 2 m_greatest_shared
def m_is_number:Mst:=(mSeq (mIf (mOr (mNot (mB (ap bo (aa (mVar 0) mNil)))) (mOr (mNot (mB (ap be (aa (mBin opIx (mVar 0) (mC (.int 0))) mNil)))) (mNot (mB (ap be (aa (mBin opIx (mVar 0) (mC (.int 1))) mNil)))))) (mRet (mC (.bl false))) mSkip)
 (mRet (bV (mBin opGe (mBin opIx (mVar 0) (mC (.int 1))) (mC (.int 1))) (mBin opEq (ap aD (aa (mCB fAbs (aa (mBin opIx (mVar 0) (mC (.int 0))) mNil)) (aa (mBin opIx (mVar 0) (mC (.int 1))) mNil))) (mC (.int 1))))))
def am:List PV→MH→Out PV:=mDef 1 1 m_is_number
def m_l_pen:Mst:=(mSeq (mSet 2 (mBin opAdd (mBin opMul (mC (.int 7919)) (mVar 1)) (mC (.int 11))))
 (mSeq (mIf (mB (mBin opLt (mVar 1) (mCB fMin (aa (mCB fLen (aa (mVar 0) mNil)) (aa (mC (.int 63)) mNil))))) (mSet 2 (mBin opIx (mVar 0) (mVar 1))) (mIf (mB (mBin opGt (mCB fLen (aa (mVar 0) mNil)) (mC (.int 0)))) (mSet 2 (mBin opAdd (mBin opMod (mBin opIx (mVar 0) (mBin opMod (mVar 1) (mCB fMin (aa (mCB fLen (aa (mVar 0) mNil)) (aa (mC (.int 63)) mNil))))) (mBin opPow (mC (.int 10)) (mC (.int 15)))) (mBin opMul (mC (.int 48271)) (mVar 1)))) mSkip))
 (mSeq (mIf (mB (mBin opGe (mCB fAbs (aa (mVar 2) mNil)) (mBin opPow (mC (.int 10)) (mC (.int 18))))) (mRet (mLst (aa (mC (.int 1)) (aa (mCB fAbs (aa (mVar 2) mNil)) (aa (mC (.int 0)) mNil))))) mSkip)
 (mRet (mLst (aa (mC (.int 0)) (aa (mBin opAdd (mBin opMod (mVar 2) (mC (.int 2147483587))) (mBin opMul (mC (.int 40009)) (mVar 1))) (aa (mC (.int 0)) mNil))))))))
def bJ:List PV→MH→Out PV:=mDef 3 2 m_l_pen
def m_l_draw:Mst:=(mSeq (mAsg (mBin opAdd (mBin opIx (mVar 0) (mC (.int 2))) (mC (.int 1))) (gSb (mVar 0) (mC (.int 2))))
 (mSeq (mIf (mB (mBin opEq (mBin opIx (mVar 0) (mC (.int 0))) (mC (.int 1)))) (mSeq (mSet 3 (mBin opMod (mBin opIx (mVar 0) (mC (.int 1))) (mVar 1)))
 (mSeq (mAsg (mBin opFd (mBin opIx (mVar 0) (mC (.int 1))) (mVar 1)) (gSb (mVar 0) (mC (.int 1))))
 (mRet (mVar 3)))) mSkip)
 (mSeq (mSet 2 (mBin opMod (mBin opMul (mBin opAdd (mBin opAdd (mBin opIx (mVar 0) (mC (.int 1))) (mBin opMul (mC (.int 40503)) (mBin opIx (mVar 0) (mC (.int 2))))) (mC (.int 1))) (mC (.int 48271))) (mC (.int 2147483647))))
 (mSeq (mSet 2 (mBin opMod (mBin opMul (mVar 2) (mBin opAdd (mBin opAdd (mBin opMod (mVar 2) (mC (.int 65521))) (mBin opIx (mVar 0) (mC (.int 2)))) (mC (.int 3)))) (mC (.int 2147483629))))
 (mRet (mBin opMod (mBin opFd (mBin opMod (mBin opMul (mVar 2) (mBin opAdd (mBin opMod (mVar 2) (mC (.int 8191))) (mC (.int 7)))) (mC (.int 2147483563))) (mC (.int 64))) (mVar 1)))))))
def az:List PV→MH→Out PV:=mDef 4 2 m_l_draw
def m_l_lowest:Mst:=(mSeq (mPar 2 3 (aa (mCB fAbs (aa (mVar 0) mNil)) (aa (mCB fAbs (aa (mVar 1) mNil)) mNil)))
 (mSeq (mWh (mB (mBin opGt (mVar 3) (mC (.int 0)))) (mPar 2 3 (aa (mVar 3) (aa (mBin opMod (mVar 2) (mVar 3)) mNil))))
 (mSeq (mIf (mB (mBin opLt (mVar 1) (mC (.int 0)))) (mSet 2 (mUn opNeg (mVar 2))) mSkip)
 (mRet (mTup (aa (mBin opFd (mVar 0) (mVar 2)) (aa (mBin opFd (mVar 1) (mVar 2)) mNil)))))))
def aK:List PV→MH→Out PV:=mDef 4 2 m_l_lowest
def m_l_number:Mst:=(mSeq (mSet 1 (ap az (aa (mVar 0) (aa (mC (.int 8)) mNil))))
 (mSeq (mIf (mB (mBin opEq (mVar 1) (mC (.int 7)))) (mRet (ap aK (aa (mBin opAdd (mBin opSub (ap az (aa (mVar 0) (aa (mBin opSub (mBin opMul (mC (.int 2)) (mBin opPow (mC (.int 10)) (mC (.int 6)))) (mC (.int 1))) mNil))) (mBin opPow (mC (.int 10)) (mC (.int 6)))) (mC (.int 1))) (aa (mBin opAdd (mC (.int 1)) (ap az (aa (mVar 0) (aa (mBin opSub (mBin opPow (mC (.int 10)) (mC (.int 6))) (mC (.int 1))) mNil)))) mNil)))) mSkip)
 (mRet (ap aK (aa (mBin opSub (ap az (aa (mVar 0) (aa (mC (.int 13)) mNil))) (mC (.int 6))) (aa (mBin opAdd (mC (.int 1)) (ap az (aa (mVar 0) (aa (mBin opIx (mLst (aa (mC (.int 1)) (aa (mC (.int 1)) (aa (mC (.int 5)) mNil)))) (mBin opMod (mVar 1) (mC (.int 3)))) mNil)))) mNil))))))
def aR:List PV→MH→Out PV:=mDef 2 1 m_l_number
def m_l_is_number:Mst:=(mSeq (mIf (mOr (mNot (mB (mUn (fIsi ["tuple"]) (mVar 0)))) (mB (mBin opNe (mCB fLen (aa (mVar 0) mNil)) (mC (.int 2))))) (mRet (mC (.bl false))) mSkip)
 (mSeq (mFor (mItS (mVar 0)) (gNm 1) (mIf (mOr (mNot (mB (mUn (fIsi ["int"]) (mVar 1)))) (mB (mUn (fIsi ["bool"]) (mVar 1)))) (mRet (mC (.bl false))) mSkip))
 (mRet (bV (mBin opGt (mBin opIx (mVar 0) (mC (.int 1))) (mC (.int 0))) (mBin opEq (ap aK (aa (mBin opIx (mVar 0) (mC (.int 0))) (aa (mBin opIx (mVar 0) (mC (.int 1))) mNil))) (mVar 0))))))
def aJ:List PV→MH→Out PV:=mDef 2 1 m_l_is_number
def m_l_things:Mst:=(mSeq (mAsg (ap aR (aa (mVar 0) mNil)) (gTp (gCn (gNm 3) (gCn (gNm 4) gNl)) 2))
 (mSeq (mSet 1 (mBin opAdd (mC (.int 2)) (ap az (aa (mVar 0) (aa (mC (.int 7)) mNil)))))
 (mSeq (mSet 2 (mLst (aa (mTup (aa (mVar 3) (aa (mVar 4) mNil))) (aa (mTup (aa (mBin opMul (mVar 3) (mVar 1)) (aa (mBin opMul (mVar 4) (mVar 1)) mNil))) (aa (mTup (aa (mVar 3) (aa (mBin opSub (mC (.int 0)) (mVar 4)) mNil))) (aa (mTup (aa (mBin opSub (mC (.int 0)) (mVar 3)) (aa (mVar 4) mNil))) (aa (mTup (aa (mVar 3) (aa (mC (.int 0)) mNil))) mNil)))))))
 (mSeq (mSet 2 (mBin opAdd (mVar 2) (mLst (aa (mTup (aa (mC (.int 0)) (aa (mVar 1) mNil))) (aa (mTup (aa (mC (.int 0)) (aa (mC (.int 1)) mNil))) mNil)))))
 (mSeq (mSet 2 (mBin opAdd (mVar 2) (mLst (aa (mLst (aa (mVar 3) (aa (mVar 4) mNil))) (aa (mTup (aa (mVar 3) mNil)) (aa (mTup (aa (mVar 3) (aa (mVar 4) (aa (mC (.int 1)) mNil)))) (aa (mTup (aa (mVar 3) (aa (mTup (aa (mVar 4) mNil)) mNil))) (aa (mTup (aa (mCB fStr (aa (mVar 3) mNil)) (aa (mVar 4) mNil))) (aa (mTup (aa (mVar 3) (aa (mCB fStr (aa (mVar 4) mNil)) mNil))) mNil)))))))))
 (mSeq (mSet 2 (mBin opAdd (mVar 2) (mLst (aa (mTup (aa (mC (.bl true)) (aa (mC (.int 1)) mNil))) (aa (mTup (aa (mC (.bl false)) (aa (mC (.int 1)) mNil))) (aa (mTup (aa (mC (.int 1)) (aa (mC (.bl true)) mNil))) (aa (mTup (aa (mC .non) (aa (mC (.int 1)) mNil))) (aa (mTup (aa (mVar 3) (aa (mC .non) mNil))) (aa (mTup mNil) (aa (mC .non) (aa (mVar 3) (aa (mC (.bl true)) (aa (mC (.str "1/2")) (aa mDic (aa (mC (.str "")) (aa (mTup (aa (mC (.int 1)) (aa (mC (.int 1)) mNil))) mNil))))))))))))))))
 (mRet (mBin opAdd (mVar 2) (mLst (aa (mTup (aa (mBin opAdd (mBin opPow (mC (.int 10)) (mC (.int 60))) (mVar 3)) (aa (mC (.int 1)) mNil))) (aa (mTup (aa (mC (.int 1)) (aa (mBin opPow (mC (.int 10)) (mC (.int 60))) mNil))) (aa (mTup (aa (mC (.int 0)) (aa (mC (.int 0)) mNil))) (aa (mTup (aa (mC (.int 0)) (aa (mUn opNeg (mC (.int 1))) mNil))) (aa (mTup (aa (mUn opNeg (mC (.int 1))) (aa (mC (.int 1)) mNil))) (aa (mTup (aa (mTup (aa (mC (.int 1)) (aa (mC (.int 2)) mNil))) (aa (mTup (aa (mC (.int 1)) (aa (mC (.int 2)) mNil))) mNil))) (aa (mTup (aa (mLst (aa (mC (.int 1)) mNil)) (aa (mC (.int 2)) mNil))) (aa (mTup (aa (mC (.int 1)) (aa mDic mNil))) mNil)))))))))))))))))
def bg:List PV→MH→Out PV:=mDef 5 1 m_l_things
def m_law:Mst:=(mSeq (mFor (cs (aa (mC (.int 4)) mNil)) (gNm 1) (mSeq (mSet 3 (ap bJ (aa (mVar 0) (aa (mVar 1) mNil))))
 (mFor (mItS (ap bg (aa (mVar 3) mNil))) (gNm 4) (mSeq (mSet 7 (ap am (aa (mVar 4) mNil)))
 (mIf (mOr (mNot (mB (mUn (fIsi ["bool"]) (mVar 7)))) (mB (mBin opNe (mVar 7) (ap aJ (aa (mVar 4) mNil))))) (mRet (mC (.bl false))) mSkip)))))
 (mSeq (mAsg (mTup (aa (mC (.int 1)) (aa (mC (.int 1)) mNil))) (gTp (gCn (gNm 5) (gCn (gNm 6) gNl)) 2))
 (mSeq (mFor (cs (aa (mC (.int 1200)) mNil)) (gNm 1) (mPar 5 6 (aa (mVar 6) (aa (mBin opAdd (mVar 5) (mVar 6)) mNil))))
 (mSeq (mIf (mOr (mB (mBin (opIs true) (ap am (aa (mTup (aa (mVar 5) (aa (mVar 6) mNil))) mNil)) (mC (.bl true)))) (mB (mBin (opIs true) (ap am (aa (mTup (aa (mBin opMul (mC (.int 2)) (mVar 5)) (aa (mBin opMul (mC (.int 2)) (mVar 6)) mNil))) mNil)) (mC (.bl false))))) (mRet (mC (.bl false))) mSkip)
 (mSeq (mSet 2 (mLst (aa (mC (.int 1)) (aa (mC (.int 2)) mNil))))
 (mRet (bV (mBin (opIs false) (ap am (aa (mVar 2) mNil)) (mC (.bl false))) (bV (mBin opEq (mVar 2) (mLst (aa (mC (.int 1)) (aa (mC (.int 2)) mNil)))) (mBin (opIs false) (ap am (aa (mTup (aa (mUn opNeg (mC (.int 3))) (aa (mC (.int 2)) mNil))) mNil)) (mC (.bl true)))))))))))
def f_law:List PV→MH→Out PV:=mDef 8 1 m_law
end
end Law
namespace Law
open PySem L2 MM
theorem dQ {a b:Int} (ha:0≤a) (hb:0≤b):Int.gcd b (a % b)=Int.gcd a b:=by
 obtain ⟨m,rfl⟩:=Int.eq_ofNat_of_zero_le ha
 obtain ⟨n,rfl⟩:=Int.eq_ofNat_of_zero_le hb
 show Nat.gcd n (m % n)=Nat.gcd m n
 rw[Nat.gcd_comm m n,Nat.gcd_rec n m,Nat.gcd_comm]
theorem dr {r:PSt} {h:MH}:∀(n:Nat) (a b:Int),0≤a→0≤b→b.toNat≤n→∀z,∃z',mWh (mB (mBin opNe (mVar 1) (mC (.int 0)))) (mSeq (mSet 2 (mBin opMod (mVar 0) (mVar 1))) (mSeq (mSet 0 (mVar 1)) (mSet 1 (mVar 2)))) [some (.int a),some (.int b),z] h
  = .nx [some (.int (Int.gcd a b)),some (.int 0),z'] h
 | n,a,b,ha,hb,hn,z=>by
  rw[dP]
  by_cases e:b=0
  ·subst e
   refine ⟨z,?_⟩
   simp
   omega
  ·have hb':0<b:=by omega
   have hm:a.fmod b=a % b:=Int.fmod_eq_emod_of_nonneg a hb
   have h0:=Int.emod_nonneg a e
   have h1:=Int.emod_lt_of_pos a hb'
   cases n with
   | zero=>omega
   | succ n =>
    obtain ⟨z',q⟩:=dr (r:=r) (h:=h) n b (a % b) hb h0 (by omega) (some (.int (a % b)))
    refine ⟨z',?_⟩
    simp[e,aQ e,hm]
    rw[q]
    rw[dQ ha hb]
theorem gs_spec {a b:Int} {h:MH} (ha:0≤a) (hb:0≤b):aD [.int a,.int b] h=.ok (.int (Int.gcd a b)) h:=by
 unfold aD
 refine (aF rfl).trans ?_
 unfold m_greatest_shared
 obtain ⟨z',q⟩:=dr (r:=[]) (h:=h) b.toNat a b ha hb (Nat.le_refl _) none
 simp only[al,List.map_cons,List.map_nil,List.length_cons,List.length_nil,List.replicate,List.cons_append,List.nil_append,bv]
 rw[q]
 simp
theorem dt {a0 b0:Option PV} {h:MH}:∀(n:Nat) (a b:Int),0≤a→0≤b→b.toNat≤n→mWh (mB (mBin opGt (mVar 3) (mC (.int 0)))) (mPar 2 3 (aa (mVar 3) (aa (mBin opMod (mVar 2) (mVar 3)) mNil))) [a0,b0,some (.int a),some (.int b)] h
  = .nx [a0,b0,some (.int (Int.gcd a b)),some (.int 0)] h
 | n,a,b,ha,hb,hn=>by
  rw[dP]
  by_cases e:b=0
  ·subst e
   simp
   omega
  ·have hb':0<b:=by omega
   have hm:a.fmod b=a % b:=Int.fmod_eq_emod_of_nonneg a hb
   have h0:=Int.emod_nonneg a e
   have h1:=Int.emod_lt_of_pos a hb'
   cases n with
   | zero=>omega
   | succ n =>
    have q:=dt (a0:=a0) (b0:=b0) (h:=h) n b (a % b) hb h0 (by omega)
    simp[hb',aQ e,hm]
    rw[q,dQ ha hb]
def lowT (a b:Int):Int:=if b<0 then -(a / (Int.gcd a b:Int)) else a / (Int.gcd a b:Int)
def lowB (a b:Int):Int:=if b<0 then -(b / (Int.gcd a b:Int)) else b / (Int.gcd a b:Int)
theorem fX {a b:Int} (hb:b≠0):Int.gcd a b≤b.natAbs:=Nat.le_of_dvd (by omega) (Int.gcd_dvd_natAbs_right a b)
theorem fw (i:Int):(if i<0 then -i else i)=(i.natAbs:Int):=by split <;> omega
theorem fo {m n:Nat} (h:m≤n):m.log2≤n.log2:=by
 by_cases hm:m=0
 ·subst hm;simp
 ·have hn:n≠0:=by omega
  rw[Nat.le_log2 hn]
  exact Nat.le_trans (Nat.log2_self_le hm) h
theorem cp {a g:Int} (hg:g ∣ a):a.fdiv (-g) = -(a / g):=by
 obtain ⟨c,rfl⟩:=hg
 by_cases e:g=0
 ·subst e;simp
 ·have h1:g * c / g=c:=Int.mul_ediv_cancel_left c e
  rw[h1,show g * c=(-g) * (-c) from (Int.neg_mul_neg g c).symm,Int.mul_fdiv_cancel_left (-c) (by omega)]
theorem cE {a b:Int} {h:MH} (hb:b≠0) (hl:b.natAbs.log2<9000):aK [.int a,.int b] h=.ok (.tup [.int (lowT a b),.int (lowB a b)]) h:=by
 unfold aK
 refine (aF rfl).trans ?_
 unfold m_l_lowest
 have hg0:0<Int.gcd a b:=Nat.pos_of_ne_zero (fun z=>hb (Int.gcd_eq_zero_iff.mp z).2)
 have hgl:(Int.gcd a b:Int).natAbs.log2<9000:=Nat.lt_of_le_of_lt (fo (by simpa using fX hb)) hl
 have q:=dt (a0:=some (.int a)) (b0:=some (.int b)) (h:=h) (b.natAbs:Int).toNat (a.natAbs:Int) (b.natAbs:Int) (by omega) (by omega) (Nat.le_refl _)
 have eg:Int.gcd (a.natAbs:Int) (b.natAbs:Int)=Int.gcd a b:=by simp[Int.gcd]
 rw[eg] at q
 simp only[al,List.map_cons,List.map_nil,List.length_cons,List.length_nil,List.replicate,List.cons_append,List.nil_append,bv]
 simp[fw]
 rw[q]
 have d1:((Int.gcd a b:Nat):Int) ∣ a:=Int.gcd_dvd_left a b
 have d2:((Int.gcd a b:Nat):Int) ∣ b:=Int.gcd_dvd_right a b
 by_cases hb0:b<0
 ·simp[hb0,lowT,lowB]
  rw[bM (by omega) (by simpa using hgl)]
  simp
  rw[bM (by omega) (by simpa using hgl)]
  simp[cp d1,cp d2]
 ·simp[hb0,lowT,lowB]
  rw[bM (by omega) (by simpa using hgl)]
  simp
  rw[bM (by omega) (by simpa using hgl)]
  simp[Int.fdiv_eq_ediv_of_nonneg]
theorem dX {a b:Int} (hb:b≠0):1≤lowB a b:=by
 have hg0:0<Int.gcd a b:=Nat.pos_of_ne_zero (fun z=>hb (Int.gcd_eq_zero_iff.mp z).2)
 have d2:((Int.gcd a b:Nat):Int) ∣ b:=Int.gcd_dvd_right a b
 obtain ⟨c,hc⟩:=d2
 have hcd:b / ((Int.gcd a b:Nat):Int)=c:=Int.ediv_eq_of_eq_mul_right (by omega) hc
 unfold lowB
 rw[hcd]
 have hc0:c≠0:=by rintro rfl;simp at hc;exact hb hc
 split
 ·rename_i hn
  have:c<0:=by
   rcases Int.lt_or_le c 0 with z|z
   ·exact z
   ·have:=Int.mul_nonneg (show (0:Int)≤((Int.gcd a b:Nat):Int) by omega) z
    omega
  omega
 ·rename_i hn
  have:¬c<0:=fun z=>by
   have:=Int.mul_neg_of_pos_of_neg (show (0:Int)<((Int.gcd a b:Nat):Int) by omega) z
   omega
  omega
theorem cY {a b:Int} (hb:b≠0):Int.gcd (lowT a b) (lowB a b)=1:=by
 have hg0:0<Int.gcd a b:=Nat.pos_of_ne_zero (fun z=>hb (Int.gcd_eq_zero_iff.mp z).2)
 have e:Int.gcd (a / (Int.gcd a b:Int)) (b / (Int.gcd a b:Int))=1:=Int.gcd_ediv_gcd_ediv_gcd hg0
 unfold lowT lowB
 split
 ·rw[Int.gcd_neg,Int.neg_gcd];exact e
 ·exact e
theorem eO {h:MH} {p:Nat} {o:MO} (hp:p<h.length):(h.set p o)[p]?=some o:=List.getElem?_set_self hp
theorem ix2:ixN 3 2=some 2:=eL (n:=3) (m:=2) (by decide)
theorem ix1:ixN 3 1=some 1:=eL (n:=3) (m:=1) (by decide)
theorem fk {h:MH} {p:Nat} {m c t size:Int} (e:h[p]?=some (.lst [.int m,.int c,.int t])) (hs:0<size) (hl:size.natAbs.log2<9000) :
  ∃d c',0≤d∧d<size∧az [.loc p,.int size] h=.ok (.int d) (h.set p (.lst [.int m,.int c',.int (t+1)])):=by
 have hp:p<h.length:=(List.getElem?_eq_some_iff.mp e).1
 unfold az
 have e2:(h.set p (.lst [.int m,.int c,.int (t+1)]))[p]?=some (.lst [.int m,.int c,.int (t+1)]):=eO hp
 have hs0:size≠0:=by omega
 have st:∀n:Int,0≤n.fmod size∧n.fmod size<size:=fun n=>by
  rw[Int.fmod_eq_emod_of_nonneg n (by omega)]
  exact ⟨Int.emod_nonneg n hs0,Int.emod_lt_of_pos n hs⟩
 by_cases hm:m=1
 ·subst hm
  refine ⟨c.fmod size,c.fdiv size,(st c).1,(st c).2,?_⟩
  refine (aF rfl).trans ?_
  unfold m_l_draw
  simp[al,List.replicate,bR e,cD e,ix2,bR e2,aQ hs0,bM hs0 hl,cD e2,ix1]
 ·have big:∀n:Int,0≤n.fmod 2147483647∧n.fmod 2147483647<2147483647:=fun n=>by
   rw[Int.fmod_eq_emod_of_nonneg n (by omega)]
   exact ⟨Int.emod_nonneg n (by omega),Int.emod_lt_of_pos n (by omega)⟩
  have big2:∀n:Int,0≤n.fmod 2147483629∧n.fmod 2147483629<2147483629:=fun n=>by
   rw[Int.fmod_eq_emod_of_nonneg n (by omega)]
   exact ⟨Int.emod_nonneg n (by omega),Int.emod_lt_of_pos n (by omega)⟩
  suffices key:∃n:Int,mDef 4 2 m_l_draw [.loc p,.int size] h=.ok (.int (n.fmod size)) (h.set p (.lst [.int m,.int c,.int (t+1)])) by
   obtain ⟨n,q⟩:=key
   exact ⟨n.fmod size,c,(st n).1,(st n).2,q⟩
  have b1:=big ((c+40503 * (t+1)+1) * 48271)
  have b2:=big2 (((c+40503 * (t+1)+1) * 48271).fmod 2147483647 * ((((c+40503 * (t+1)+1) * 48271).fmod 2147483647).fmod 65521+(t+1)+3))
  have c1:-(2 ^ 64)<((c+40503 * (t+1)+1) * 48271).fmod 2147483647∧((c+40503 * (t+1)+1) * 48271).fmod 2147483647<2 ^ 64:=by omega
  have c2:-(2 ^ 64)<(((c+40503 * (t+1)+1) * 48271).fmod 2147483647 * ((((c+40503 * (t+1)+1) * 48271).fmod 2147483647).fmod 65521+(t+1)+3)).fmod 2147483629∧(((c+40503 * (t+1)+1) * 48271).fmod 2147483647 * ((((c+40503 * (t+1)+1) * 48271).fmod 2147483647).fmod 65521+(t+1)+3)).fmod 2147483629<2 ^ 64:=by omega
  have k1:∀{i:Int} {h:MH},opMul (.int 40503) (.int i) h=.ok (.int (40503 * i)) h:=aW (by decide)
  have k2:∀{i:Int} {h:MH},opMul (.int i) (.int 48271) h=.ok (.int (i * 48271)) h:=opMul_r (by decide)
  refine ⟨(((((c+40503 * (t+1)+1) * 48271).fmod 2147483647 * ((((c+40503 * (t+1)+1) * 48271).fmod 2147483647).fmod 65521+(t+1)+3)).fmod 2147483629 * (((((c+40503 * (t+1)+1) * 48271).fmod 2147483647 * ((((c+40503 * (t+1)+1) * 48271).fmod 2147483647).fmod 65521+(t+1)+3)).fmod 2147483629).fmod 8191+7)).fmod 2147483563).fdiv 64,?_⟩
  refine (aF rfl).trans ?_
  unfold m_l_draw
  simp[al,List.replicate,bR e,cD e,ix2,bR e2,hm,k1,k2,aQ,aW c1,aW c2,bM (show (64:Int)≠0 by decide) (show (64:Int).natAbs.log2<9000 by decide +kernel),aQ hs0]
theorem eY {a b:Int} (hb:0<b) (hg:Int.gcd a b=1):lowT a b=a∧lowB a b=b:=by
 unfold lowT lowB
 rw[if_neg (by omega),if_neg (by omega),hg]
 simp
def bx (h:MH) (p:Nat):Prop:=∃m c t:Int,h[p]?=some (.lst [.int m,.int c,.int t])
structure Up (p:Nat) (h h':MH):Prop where
 len:h.length≤h'.length
 keep:∀n:Nat,n<h.length→n≠p→h'[n]?=h[n]?
 pen:bx h' p
theorem Up.trans {p:Nat} {h h1 h2:MH} (a:Up p h h1) (b:Up p h1 h2):Up p h h2 :=
 ⟨Nat.le_trans a.len b.len,fun n hn hp=>(b.keep n (Nat.lt_of_lt_of_le hn a.len) hp).trans (a.keep n hn hp),b.pen⟩
theorem Up.refl {p:Nat} {h:MH} (a:bx h p):Up p h h:=⟨Nat.le_refl _,fun _ _ _=>rfl,a⟩
theorem bx.lt {p:Nat} {h:MH} (a:bx h p):p<h.length:=let ⟨_,_,_,e⟩:=a;(List.getElem?_eq_some_iff.mp e).1
theorem Up.app {p:Nat} {h:MH} (a:bx h p) (g:MH):Up p h (h++g) :=
 ⟨by simp,fun n hn _=>List.getElem?_append_left hn,let ⟨m,c,t,e⟩:=a;⟨m,c,t,by rw[List.getElem?_append_left a.lt];exact e⟩⟩
theorem Up.get {p:Nat} {h h':MH} (u:Up p h h') {n:Nat} {o:MO} (e:h[n]?=some o) (hp:n≠p):h'[n]?=some o:=(u.keep n (List.getElem?_eq_some_iff.mp e).1 hp).trans e
theorem bL {h:MH} {p:Nat} {size:Int} (a:bx h p) (hs:0<size) (hl:size.natAbs.log2<9000):∃d h',0≤d∧d<size∧az [.loc p,.int size] h=.ok (.int d) h'∧Up p h h':=by
 obtain ⟨m,c,t,e⟩:=a
 obtain ⟨d,c',h0,h1,q⟩:=fk e hs hl
 have hp:p<h.length:=(List.getElem?_eq_some_iff.mp e).1
 exact ⟨d,_,h0,h1,q,by simp,fun n hn hne=>List.getElem?_set_ne (fun z=>hne z.symm),m,c',t+1,eO hp⟩
theorem eJ {ns:List Int} {k:Nat} (hk:k<ns.length):atI (ns.map PV.int) (k:Int)=some (.int ns[k]):=b5 (by simp[hk])
theorem dH {h:MH}:opPow (.int 10) (.int 18) h=.ok (.int (10 ^ 18)) h:=ce (by decide)
theorem gn {h:MH}:opPow (.int 10) (.int 15) h=.ok (.int (10 ^ 15)) h:=ce (by decide)
theorem f9 {h:MH} {ns:List Int} {k:Nat} (hk:k<64):∃m c:Int,bJ [.frl (ns.map .int),.int k] h=.ok (.loc h.length) (h++[.lst [.int m,.int c,.int 0]]):=by
 unfold bJ
 have k1:∀{i:Int} {h:MH},opMul (.int 7919) (.int i) h=.ok (.int (7919 * i)) h:=aW (by decide)
 have k2:∀{i:Int} {h:MH},opMul (.int 48271) (.int i) h=.ok (.int (48271 * i)) h:=aW (by decide)
 have k3:∀{i:Int} {h:MH},opMul (.int 40009) (.int i) h=.ok (.int (40009 * i)) h:=aW (by decide)
 have n3:∀{a b c:PV} {h:MH},newL [a,b,c] h=.ok (.loc h.length) (h++[.lst [a,b,c]]):=aN (by simp)
 have fin:∀cell:Int,∃m c:Int,(mSeq (mIf (mB (mBin opGe (mCB fAbs (aa (mVar 2) mNil)) (mBin opPow (mC (.int 10)) (mC (.int 18))))) (mRet (mLst (aa (mC (.int 1)) (aa (mCB fAbs (aa (mVar 2) mNil)) (aa (mC (.int 0)) mNil))))) mSkip)
   (mRet (mLst (aa (mC (.int 0)) (aa (mBin opAdd (mBin opMod (mVar 2) (mC (.int 2147483587))) (mBin opMul (mC (.int 40009)) (mVar 1))) (aa (mC (.int 0)) mNil)))))) [some (.frl (ns.map .int)),some (.int k),some (.int cell)] h=.rt (.loc h.length) (h++[.lst [.int m,.int c,.int 0]]):=fun cell=>by
  by_cases z:(10:Int) ^ 18≤(if cell<0 then -cell else cell)
  ·exact ⟨1,(if cell<0 then -cell else cell),by simp[dH,n3,z,-Int.reducePow]⟩
  ·exact ⟨0,cell.fmod 2147483587+40009 * k,by simp[dH,n3,z,k3,aQ,-Int.reducePow]⟩
 have fin':∀cell:Int,∃m c:Int,((mSeq (mIf (mB (mBin opGe (mCB fAbs (aa (mVar 2) mNil)) (mBin opPow (mC (.int 10)) (mC (.int 18))))) (mRet (mLst (aa (mC (.int 1)) (aa (mCB fAbs (aa (mVar 2) mNil)) (aa (mC (.int 0)) mNil))))) mSkip)
   (mRet (mLst (aa (mC (.int 0)) (aa (mBin opAdd (mBin opMod (mVar 2) (mC (.int 2147483587))) (mBin opMul (mC (.int 40009)) (mVar 1))) (aa (mC (.int 0)) mNil)))))) [some (.frl (ns.map .int)),some (.int k),some (.int cell)] h).fin=.ok (.loc h.length) (h++[.lst [.int m,.int c,.int 0]]):=fun cell=>by
  obtain ⟨m,c,q⟩:=fin cell
  exact ⟨m,c,by rw[q];rfl⟩
 have lift:∀cell:Int,(mSeq (mSet 2 (mBin opAdd (mBin opMul (mC (.int 7919)) (mVar 1)) (mC (.int 11))))
 (mIf (mB (mBin opLt (mVar 1) (mCB fMin (aa (mCB fLen (aa (mVar 0) mNil)) (aa (mC (.int 63)) mNil))))) (mSet 2 (mBin opIx (mVar 0) (mVar 1))) (mIf (mB (mBin opGt (mCB fLen (aa (mVar 0) mNil)) (mC (.int 0)))) (mSet 2 (mBin opAdd (mBin opMod (mBin opIx (mVar 0) (mBin opMod (mVar 1) (mCB fMin (aa (mCB fLen (aa (mVar 0) mNil)) (aa (mC (.int 63)) mNil))))) (mBin opPow (mC (.int 10)) (mC (.int 15)))) (mBin opMul (mC (.int 48271)) (mVar 1)))) mSkip))) [some (.frl (ns.map .int)),some (.int k),none] h=.nx [some (.frl (ns.map .int)),some (.int k),some (.int cell)] h →
   ∃m c:Int,mDef 3 2 m_l_pen [.frl (ns.map .int),.int k] h=.ok (.loc h.length) (h++[.lst [.int m,.int c,.int 0]]):=fun cell q=>by
  obtain ⟨m,c,q2⟩:=fin' cell
  refine ⟨m,c,(aF rfl).trans ?_⟩
  rw[←q2]
  unfold m_l_pen
  simp only[bv] at q ⊢
  have e0:al 3 [PV.frl (ns.map .int),PV.int k]=[some (.frl (ns.map .int)),some (.int k),none]:=rfl
  rw[e0]
  generalize (mSet 2 (mBin opAdd (mBin opMul (mC (.int 7919)) (mVar 1)) (mC (.int 11)))) [some (.frl (ns.map .int)),some (.int k),none] h=o1 at q ⊢
  cases o1 with
  | nx σ1 h1 =>
   simp only[dg,bv] at q ⊢
   rw[q]
   rfl
  | _=>cases q
 have hlim:∃lim:Nat,(if (63:Int)<(ns.length:Int) then (63:Int) else (ns.length:Int))=(lim:Int)∧lim≤ns.length∧(0<ns.length→0<lim):=by
  by_cases z:(63:Int)<(ns.length:Int)
  ·exact ⟨63,by rw[if_pos z];rfl,by omega,by omega⟩
  ·exact ⟨ns.length,by rw[if_neg z],by omega,by omega⟩
 obtain ⟨lim,el,hl1,hl2⟩:=hlim
 by_cases h1:k<lim
 ·refine lift (ns[k]'(by omega)) ?_
  simp[k1,el,h1,eJ (show k<ns.length by omega)]
 ·by_cases h0:0<ns.length
  ·have hm0:(lim:Int)≠0:=by have:=hl2 h0;omega
   have hj:k % lim<ns.length:=Nat.lt_of_lt_of_le (Nat.mod_lt _ (hl2 h0)) hl1
   have ej:(k:Int).fmod (lim:Int)=((k % lim:Nat):Int):=by rw[Int.fmod_eq_emod_of_nonneg _ (by omega)];rfl
   refine lift ((ns[k % lim]'hj).fmod (10 ^ 15)+48271 * k) ?_
   have p0:((10:Int) ^ 15)≠0:=by decide
   have a1:=eJ hj
   rw[Int.natCast_emod] at a1
   simp[k1,el,h1,h0,aQ hm0,ej,a1,gn,aQ p0,k2,-Int.reducePow]
  ·have h0':ns=[]:=List.length_eq_zero_iff.mp (by omega)
   refine lift (7919 * k+11) ?_
   have z:¬((k:Int)<(lim:Int)):=by omega
   simp[k1,el,z,h0]
theorem bB {i:Int} (h:i.natAbs<2 ^ 40):i.natAbs.log2<9000:=by
 by_cases z:i.natAbs=0
 ·rw[z];decide
 ·have:=(Nat.log2_lt z).mpr h
  omega
theorem aB {v:PV} {h:MH} {t:String} (e:tyP h v=some t):be [v] h=.ok (.bl (t == "int")) h:=by
 unfold be
 refine (aF rfl).trans ?_
 unfold m_is_whole
 have ht:t∈["NoneType","bool","int","str","tuple","list","dict"]:=by
  cases v <;> simp[tyP] at e
  case loc n=>split at e <;> simp at e <;> subst e <;> decide
  all_goals (subst e;decide)
 simp[al,fIsi,e]
 simp only[List.mem_cons,List.not_mem_nil,or_false] at ht
 rcases ht with rfl|rfl|rfl|rfl|rfl|rfl|rfl <;> simp[isaT]
def aM (v:PV):Bool:=match v with
 | .tup [.int a,.int b]=>decide (1≤b∧Int.gcd a b=1)
 | _=>false
def tyOk (h:MH) (v:PV):Prop:=(∃t,tyP h v=some t)∧∀xs,v=.tup xs→∀x∈xs,∃t,tyP h x=some t
def isPr (v:PV):Bool:=match v with
 | .tup [_,_]=>true
 | _=>false
theorem cA {v:PV} {h:MH} {t:String} (et:tyP h v=some t):bo [v] h=.ok (.bl (isPr v)) h:=by
 unfold bo
 refine (aF rfl).trans ?_
 unfold m_is_pair
 by_cases ht:t="tuple"
 ·subst ht
  obtain ⟨xs,rfl⟩:∃xs,v=.tup xs:=by
   cases v <;> simp[tyP] at et
   case tup xs=>exact ⟨xs,rfl⟩
   case loc n=>split at et <;> simp at et
  match xs with
  | []=>simp[al,fIsi,tyP,isaT,isPr]
  | [x]=>simp[al,fIsi,tyP,isaT,isPr]
  | [x,y]=>simp[al,fIsi,tyP,isaT,isPr]
  | x::y::z::r =>
   have:¬(r.length:Int)+1+1+1=2:=by omega
   simp[al,fIsi,tyP,isaT,this,isPr]
 ·have e1:isPr v=false:=by
   cases v <;> first | rfl | (simp[tyP] at et;exact absurd et.symm ht)
  rw[e1]
  simp[al,fIsi,et,isaT,ht]
theorem aT {v:PV} {h:MH} (ok:tyOk h v):am [v] h=.ok (.bl (aM v)) h:=by
 unfold am
 refine (aF rfl).trans ?_
 unfold m_is_number
 obtain ⟨⟨t,et⟩,ok2⟩:=ok
 by_cases hv:∃x y,v=.tup [x,y]
 ·obtain ⟨x,y,rfl⟩:=hv
  have ep:bo [.tup [x,y]] h=.ok (.bl true) h:=cA et
  obtain ⟨tx,ex⟩:=ok2 _ rfl x (by simp)
  obtain ⟨ty,ey⟩:=ok2 _ rfl y (by simp)
  by_cases hx:tx="int"
  ·by_cases hy:ty="int"
   ·subst hx;subst hy
    obtain ⟨a,rfl⟩:∃a,x=.int a:=by
     cases x <;> simp[tyP] at ex
     case int a=>exact ⟨a,rfl⟩
     case loc n=>split at ex <;> simp at ex
    obtain ⟨b,rfl⟩:∃b,y=.int b:=by
     cases y <;> simp[tyP] at ey
     case int a=>exact ⟨a,rfl⟩
     case loc n=>split at ey <;> simp at ey
    by_cases hb:1≤b
    ·have eg:Int.gcd (a.natAbs:Int) b=Int.gcd a b:=by simp[Int.gcd]
     simp[al,ep,fIsi,tyP,isaT,aB (v:=.int a) (h:=h) (t:="int") rfl,aB (v:=.int b) (h:=h) (t:="int") rfl,hb,fw,gs_spec (a:=(a.natAbs:Int)) (b:=b) (h:=h) (by omega) (by omega),aM,eg]
     omega
    ·simp[al,ep,fIsi,tyP,isaT,aB (v:=.int a) (h:=h) (t:="int") rfl,aB (v:=.int b) (h:=h) (t:="int") rfl,hb,aM]
   ·have e1:aM (.tup [x,y])=false:=by
     cases x <;> cases y <;> first | rfl | (simp[tyP] at ey;exact absurd ey.symm hy)
    simp[al,ep,fIsi,tyP,isaT,aB ex,aB ey,hx,hy,e1]
  ·have e1:aM (.tup [x,y])=false:=by
    cases x <;> cases y <;> first | rfl | (simp[tyP] at ex;exact absurd ex.symm hx)
   simp[al,ep,fIsi,tyP,isaT,aB ex,aB ey,hx,e1]
 ·have e1:aM v=false:=by
   unfold aM
   split
   ·exact absurd ⟨_,_,rfl⟩ hv
   ·rfl
  have e2:isPr v=false:=by
   unfold isPr
   split
   ·exact absurd ⟨_,_,rfl⟩ hv
   ·rfl
  have ep:=cA et
  rw[e2] at ep
  simp[al,ep,e1]
theorem opEq_t2 {a b c d:Int} {h:MH}:opEq (.tup [.int a,.int b]) (.tup [.int c,.int d]) h=.ok (.bl (decide (a=c∧b=d))) h:=by
 simp[opEq,rd,bq,SeqAt.shaped,PyData.canLay0,PyData.canLayAll0,PyData.depth,PyData.depthAll,PyData.eqv,PyData.eqvAll,Bool.beq_eq_decide_eq]
theorem low_iff {a b:Int} (hb:0<b):(lowT a b=a∧lowB a b=b)↔Int.gcd a b=1 :=
 ⟨fun ⟨h1,h2⟩=>by have:=cY (a:=a) (b:=b) (by omega);rw[h1,h2] at this;exact this,fun h=>eY hb h⟩
theorem intTy {x:PV} {h:MH} (e:tyP h x=some "int"):∃a,x=.int a:=by
 cases x <;> simp[tyP] at e
 case int a=>exact ⟨a,rfl⟩
 case loc n=>split at e <;> simp at e
theorem tyMem {v:PV} {h:MH} {t:String} (e:tyP h v=some t):t∈["NoneType","bool","int","str","tuple","list","dict"]:=by
 cases v <;> simp[tyP] at e
 case loc n=>split at e <;> simp at e <;> subst e <;> decide
 all_goals (subst e;decide)
theorem isI {t:String} (ht:t∈["NoneType","bool","int","str","tuple","list","dict"]):(!isaT t "int" || isaT t "bool")=!(t == "int"):=by
 simp only[List.mem_cons,List.not_mem_nil,or_false] at ht
 rcases ht with rfl|rfl|rfl|rfl|rfl|rfl|rfl <;> decide
abbrev bu:Mst:=(mIf (mOr (mNot (mB (mUn (fIsi ["int"]) (mVar 1)))) (mB (mUn (fIsi ["bool"]) (mVar 1)))) (mRet (mC (.bl false))) mSkip)
theorem cS {v x:PV} {h:MH} {t:String} (e:tyP h x=some t):bu [some v,some x] h=if t="int" then .nx [some v,some x] h else .rt (.bl false) h:=by
 have hh:=isI (tyMem e)
 by_cases z:t="int"
 ·subst z
  simp[fIsi,e,isaT]
 ·have z1:(t == "int")=false:=by simpa using z
  rw[z1] at hh
  simp[fIsi,e,z]
  cases h1:isaT t "int" with
  | false=>simp
  | true =>
   rw[h1] at hh
   simp at hh
   simp[hh]
theorem cX {v:PV} {h:MH} (ok:tyOk h v) (hb9:∀a b,v=.tup [.int a,.int b]→b.natAbs.log2<9000):aJ [v] h=.ok (.bl (aM v)) h:=by
 unfold aJ
 refine (aF rfl).trans ?_
 unfold m_l_is_number
 obtain ⟨⟨t,et⟩,ok2⟩:=ok
 by_cases hv:∃x y,v=.tup [x,y]
 ·obtain ⟨x,y,rfl⟩:=hv
  obtain ⟨tx,ex⟩:=ok2 _ rfl x (by simp)
  obtain ⟨ty,ey⟩:=ok2 _ rfl y (by simp)
  have go1:∀{r:List PV},mGo ⟨[x,y],[]⟩ (gNm 1) bu (x::r) [some (.tup [x,y]),none] h=if tx="int" then mGo ⟨[x,y],[]⟩ (gNm 1) bu r [some (.tup [x,y]),some x] h else .rt (.bl false) h:=fun {r}=>by
   rw[bP (bY.mpr trivial) bQ]
   show (bu [some (.tup [x,y]),some x] h).turn _=_
   rw[cS ex]
   split <;> rfl
  have go2:∀{r:List PV},mGo ⟨[x,y],[]⟩ (gNm 1) bu (y::r) [some (.tup [x,y]),some x] h=if ty="int" then mGo ⟨[x,y],[]⟩ (gNm 1) bu r [some (.tup [x,y]),some y] h else .rt (.bl false) h:=fun {r}=>by
   rw[bP (bY.mpr trivial) bQ]
   show (bu [some (.tup [x,y]),some y] h).turn _=_
   rw[cS ey]
   split <;> rfl
  simp[al,fIsi,tyP,isaT]
  rw[go1,go2,cy (bY.mpr trivial)]
  by_cases hx:tx="int"
  ·by_cases hy:ty="int"
   ·subst hx;subst hy
    obtain ⟨a,rfl⟩:=intTy ex
    obtain ⟨b,rfl⟩:=intTy ey
    by_cases hb:0<b
    ·simp[hb,cE (a:=a) (b:=b) (h:=h) (by omega) (hb9 a b rfl),opEq_t2,low_iff hb,aM]
     omega
    ·simp[hb,aM]
     omega
   ·have e1:aM (.tup [x,y])=false:=by
     cases x <;> cases y <;> first | rfl | (simp[tyP] at ey;exact absurd ey.symm hy)
    simp[hx,hy,e1]
  ·have e1:aM (.tup [x,y])=false:=by
    cases x <;> cases y <;> first | rfl | (simp[tyP] at ex;exact absurd ex.symm hx)
   simp[hx,e1]
 ·have e1:aM v=false:=by
   unfold aM
   split
   ·exact absurd ⟨_,_,rfl⟩ hv
   ·rfl
  by_cases ht:t="tuple"
  ·subst ht
   obtain ⟨xs,rfl⟩:∃xs,v=.tup xs:=by
    cases v <;> simp[tyP] at et
    case tup xs=>exact ⟨xs,rfl⟩
    case loc n=>split at et <;> simp at et
   have hl:¬xs.length=2:=fun z=>by
    match xs,z with
    | [x,y],_=>exact hv ⟨x,y,rfl⟩
   have hl2:¬((xs.length:Int)=2):=by omega
   simp[al,fIsi,tyP,isaT,e1,hl2]
  ·simp[al,fIsi,et,isaT,ht,e1]
theorem cB (a:Int) (g:Nat):(a / (g:Int)).natAbs≤a.natAbs:=by
 rcases Nat.eq_zero_or_pos g with z|z
 ·subst z;simp
 ·have:=Int.natAbs_ediv_le_natAbs a (g:Int)
  omega
theorem eI {a b:Int}:(lowT a b).natAbs≤a.natAbs:=by
 have:=cB a (Int.gcd a b)
 unfold lowT;split <;> omega
theorem eP {a b:Int}:(lowB a b).natAbs≤b.natAbs:=by
 have:=cB b (Int.gcd a b)
 unfold lowB;split <;> omega
theorem pow10_6 {h:MH}:opPow (.int 10) (.int 6) h=.ok (.int 1000000) h:=ce (by decide)
theorem d6 {h:MH} {p:Nat} (a:bx h p):∃x y h',Int.gcd x y=1∧1≤y∧y≤1000000∧x.natAbs≤1000000∧aR [.loc p] h=.ok (.tup [.int x,.int y]) h'∧Up p h h':=by
 obtain ⟨w,h1,w0,w1,q1,u1⟩:=bL (size:=8) a (by decide) (by decide)
 have k1:∀{i:Int} {h:MH},opMul (.int 2) (.int i) h=.ok (.int (2 * i)) h:=aW (by decide)
 by_cases hw:w=7
 ·subst hw
  obtain ⟨d,h2,d0,d1,q2,u2⟩:=bL (size:=1999999) u1.pen (by decide) (by decide +kernel)
  obtain ⟨e,h3,e0,e1,q3,u3⟩:=bL (size:=999999) u2.pen (by decide) (by decide +kernel)
  have hb:1+e≠0:=by omega
  have hB:=eP (a:=d - 1000000+1) (b:=1+e)
  have hT:=eI (a:=d - 1000000+1) (b:=1+e)
  have hp:=dX (a:=d - 1000000+1) hb
  refine ⟨_,_,h3,cY (a:=d - 1000000+1) hb,hp,by omega,by omega,?_,u1.trans (u2.trans u3)⟩
  unfold aR
  refine (aF rfl).trans ?_
  unfold m_l_number
  simp[al,q1,pow10_6,k1,q2,q3,cE (h:=h3) hb (bB (by omega))]
 ·obtain ⟨d,h2,d0,d1,q2,u2⟩:=bL (size:=13) u1.pen (by decide) (by decide +kernel)
  have u3:=Up.app u2.pen [.lst [.int 1,.int 1,.int 5]]
  have n3:newL [.int 1,.int 1,.int 5] h2=.ok (.loc h2.length) (h2++[.lst [.int 1,.int 1,.int 5]]):=aN (by simp)
  have e3:(h2++[MO.lst [.int 1,.int 1,.int 5]])[h2.length]?=some (.lst [.int 1,.int 1,.int 5]):=by simp
  have hm:w.fmod 3=w % 3:=Int.fmod_eq_emod_of_nonneg w (by decide)
  obtain ⟨z,hz,z0,z1⟩:∃z:Int,atI [PV.int 1,.int 1,.int 5] (w % 3)=some (.int z)∧0<z∧z≤5:=by
   have:w % 3=0∨w % 3=1∨w % 3=2:=by omega
   rcases this with r|r | r <;> rw[r]
   ·exact ⟨1,by simp,by decide,by decide⟩
   ·exact ⟨1,by simp,by decide,by decide⟩
   ·exact ⟨5,by simp,by decide,by decide⟩
  obtain ⟨e,h4,e0,e1,q4,u4⟩:=bL (size:=z) u3.pen z0 (bB (by omega))
  have hb:1+e≠0:=by omega
  have hB:=eP (a:=d - 6) (b:=1+e)
  have hT:=eI (a:=d - 6) (b:=1+e)
  have hp:=dX (a:=d - 6) hb
  refine ⟨_,_,h4,cY (a:=d - 6) hb,hp,by omega,by omega,?_,u1.trans (u2.trans (u3.trans u4))⟩
  unfold aR
  refine (aF rfl).trans ?_
  unfold m_l_number
  simp[al,q1,hw,q2,n3,aQ,bR e3,hm,hz,q4,cE (h:=h4) hb (bB (by omega))]
theorem fM {p:Nat} {h h':MH} {v:PV} {t:String} (u:Up p h h') (e:tyP h v=some t) (hv:v≠.loc p):tyP h' v=some t:=by
 cases v with
 | loc n =>
  have hn:n≠p:=fun z=>hv (by rw[z])
  simp only[tyP] at e ⊢
  cases q:h[n]? with
  | none=>rw[q] at e;simp at e
  | some o=>rw[u.get q hn];rw[q] at e;exact e
 | _=>exact e
structure El (p:Nat) (h:MH) (v:PV):Prop where
 np:v≠.loc p
 ty:∃t,tyP h v=some t
 parts:∀xs,v=.tup xs→∀x∈xs,x≠.loc p∧∃t,tyP h x=some t
 sm:∀a b,v=.tup [.int a,.int b]→b.natAbs.log2<9000
theorem El.up {p:Nat} {h h':MH} {v:PV} (u:Up p h h') (e:El p h v):El p h' v :=
 ⟨e.np,let ⟨t,z⟩:=e.ty;⟨t,fM u z e.np⟩,fun xs q x hx=>let ⟨a,t,z⟩:=e.parts xs q x hx;⟨a,t,fM u z a⟩,e.sm⟩
theorem El.ok {p:Nat} {h:MH} {v:PV} (e:El p h v):tyOk h v:=⟨e.ty,fun xs q x hx=>(e.parts xs q x hx).2⟩
theorem el_s {p:Nat} {h:MH} {v:PV} (h1:∀n,v≠.loc n) (h2:∀xs,v≠.tup xs):El p h v:=by
 refine ⟨h1 p,?_,fun xs q=>absurd q (h2 xs),fun a b q=>absurd q (h2 _)⟩
 cases v with
 | loc n=>exact absurd rfl (h1 n)
 | tup xs=>exact absurd rfl (h2 xs)
 | _=>exact ⟨_,rfl⟩
theorem el_i {p:Nat} {h:MH} (i:Int):El p h (.int i):=el_s (fun _ z=>nomatch z) (fun _ z=>nomatch z)
theorem el_b {p:Nat} {h:MH} (i:Bool):El p h (.bl i):=el_s (fun _ z=>nomatch z) (fun _ z=>nomatch z)
theorem el_n {p:Nat} {h:MH}:El p h .non:=el_s (fun _ z=>nomatch z) (fun _ z=>nomatch z)
theorem dz {p:Nat} {h:MH} (i:Str):El p h (.str i):=el_s (fun _ z=>nomatch z) (fun _ z=>nomatch z)
theorem el_l {p n:Nat} {h:MH} {o:MO} (e:h[n]?=some o) (hn:n≠p) (ho:∀x,o≠.exc x:=by intro x z;cases z):El p h (.loc n):=by
 refine ⟨fun z=>hn (PV.loc.inj z),?_,(fun xs q=>nomatch q),(fun a b q=>nomatch q)⟩
 simp only[tyP,e]
 cases o with
 | exc x=>exact absurd rfl (ho x)
 | _=>exact ⟨_,rfl⟩
theorem el_t {p:Nat} {h:MH} {xs:List PV} (hx:∀x∈xs,El p h x) (hs:∀a b,xs=[.int a,.int b]→b.natAbs.log2<9000):El p h (.tup xs) :=
 ⟨(fun z=>nomatch z),⟨_,rfl⟩,fun ys q x hm=>by cases q;exact ⟨(hx x hm).np,(hx x hm).ty⟩,fun a b q=>hs a b (PV.tup.inj q)⟩
theorem el_2 {p:Nat} {h:MH} {x y:PV} (hx:El p h x) (hy:El p h y) (hs:∀b,y=.int b→b.natAbs.log2<9000):El p h (.tup [x,y]) :=
 el_t (fun z hz=>by
  rcases List.mem_cons.mp hz with rfl|hz
  ·exact hx
  ·rw[List.mem_singleton.mp hz];exact hy) fun a b q=>by
  simp at q
  exact hs b q.2
theorem bd {p:Nat} {h:MH} {a b:Int} (hs:b.natAbs<2 ^ 40):El p h (.tup [.int a,.int b]):=el_2 (el_i a) (el_i b) fun c q=>by cases q;exact bB hs
theorem ah {p:Nat} {h:MH} {x:PV} {xs:List PV} (hx:El p h x) (hr:∀v∈xs,El p h v):∀v∈x::xs,El p h v:=fun v hv=>by
 rcases List.mem_cons.mp hv with rfl|hv
 ·exact hx
 ·exact hr v hv
theorem bp {p:Nat} {h:MH}:∀v∈([]:List PV),El p h v:=fun v hv=>absurd hv (List.not_mem_nil)
theorem grow {σ:PSt} {h h1:MH} {q p:Nat} {xs ys:List PV} {args:Mx (List PV)} (hv:mVar 2 σ h=.ok (.loc q) h) (e:h[q]?=some (.lst xs)) (hq:q≠p) (ha:args σ h=.ok ys h1) (u:Up p h h1) (hp:bx h p) (hl:xs.length+ys.length≤1000)
  (ex:∀v∈xs,El p h v) (ey:∀v∈ys,El p h1 v):∃q' h',mBin opAdd (mVar 2) (mLst args) σ h=.ok (.loc q') h'∧h'[q']?=some (.lst (xs++ys))∧Up p h h'∧q'≠p∧∀v∈xs++ys,El p h' v:=by
 have e1:=u.get e hq
 have n1:newL ys h1=.ok (.loc h1.length) (h1++[.lst ys]):=aN (by omega)
 have u1:=Up.app u.pen [.lst ys]
 have e2:=u1.get e1 hq
 have e3:(h1++[MO.lst ys])[h1.length]?=some (.lst ys):=by simp
 have n2:newL (xs++ys) (h1++[.lst ys])=.ok (.loc (h1++[MO.lst ys]).length) ((h1++[.lst ys])++[.lst (xs++ys)]):=aN (by simpa using hl)
 have u2:=Up.app u1.pen [.lst (xs++ys)]
 have hp1:=u.pen.lt
 refine ⟨(h1++[MO.lst ys]).length,(h1++[.lst ys])++[.lst (xs++ys)],?_,?_,u.trans (u1.trans u2),?_,fun v hv=>?_⟩
 ·simp only[mBin_ap,hv,Out.bind_ok,mLst_ap,ha,n1,gf e2 e3,n2,Out.ne_ok]
 ·rw[List.getElem?_append_right (Nat.le_refl _)];simp
 ·rw[List.length_append];omega
 ·rcases List.mem_append.mp hv with z|z
  ·exact (((ex v z).up u).up u1).up u2
  ·exact ((ey v z).up u1).up u2
theorem gp {h:MH}:opPow (.int 10) (.int 60) h=.ok (.int (10 ^ 60)) h:=ce (by decide)
theorem fu {i:Int} {h:MH} (hl:i.natAbs<2 ^ 40):fStr [.int i] h=.ok (.str (toString i)) h:=by
 have:i.natAbs.log2<1920:=by
  by_cases z:i.natAbs=0
  ·rw[z];decide
  ·have:=(Nat.log2_lt z).mpr hl
   omega
 simp[fStr,this]
theorem newL_5 {a b c d e:PV} {h:MH}:newL [a,b,c,d,e] h=.ok (.loc h.length) (h++[.lst [a,b,c,d,e]]):=aN (by simp)
theorem newL_1 {a:PV} {h:MH}:newL [a] h=.ok (.loc h.length) (h++[.lst [a]]):=aN (by simp)
theorem newL_2 {a b:PV} {h:MH}:newL [a,b] h=.ok (.loc h.length) (h++[.lst [a,b]]):=aN (by simp)
theorem d8 {h:MH} {p:Nat} (a:bx h p):∃q h' xs,bg [.loc p] h=.ok (.loc q) h'∧h'[q]?=some (.lst xs)∧Up p h h'∧q≠p∧∀v∈xs,El p h' v:=by
 obtain ⟨x,y,h1,g1,y1,y2,x1,q1,u1⟩:=d6 a
 obtain ⟨d,h2,d0,d1,q2,u2⟩:=bL (size:=7) u1.pen (by decide) (by decide +kernel)
 have m1:opMul (.int x) (.int (2+d)) h2=.ok (.int (x * (2+d))) h2:=aW (by omega)
 have m2:opMul (.int y) (.int (2+d)) h2=.ok (.int (y * (2+d))) h2:=aW (by omega)
 have hyd:(y * (2+d)).natAbs<2 ^ 40:=by
  rw[Int.natAbs_mul]
  have:y.natAbs * (2+d).natAbs≤1000000 * 8:=Nat.mul_le_mul (by omega) (by omega)
  omega
 have u3:=Up.app u2.pen [.lst [.tup [.int x,.int y],.tup [.int (x * (2+d)),.int (y * (2+d))],.tup [.int x,.int (0 - y)],.tup [.int (0 - x),.int y],.tup [.int x,.int 0]]]
 have e3:(h2++[MO.lst [.tup [.int x,.int y],.tup [.int (x * (2+d)),.int (y * (2+d))],.tup [.int x,.int (0 - y)],.tup [.int (0 - x),.int y],.tup [.int x,.int 0]]])[h2.length]?=some (.lst [.tup [.int x,.int y],.tup [.int (x * (2+d)),.int (y * (2+d))],.tup [.int x,.int (0 - y)],.tup [.int (0 - x),.int y],.tup [.int x,.int 0]]):=by simp
 generalize hh3:(h2++[MO.lst [.tup [.int x,.int y],.tup [.int (x * (2+d)),.int (y * (2+d))],.tup [.int x,.int (0 - y)],.tup [.int (0 - x),.int y],.tup [.int x,.int 0]]])=h3 at u3 e3
 have hp2:=u2.pen.lt
 have E3:∀v∈[PV.tup [.int x,.int y],.tup [.int (x * (2+d)),.int (y * (2+d))],.tup [.int x,.int (0 - y)],.tup [.int (0 - x),.int y],.tup [.int x,.int 0]],El p h3 v :=
  ah (bd (by omega)) (ah (bd hyd) (ah (bd (by omega)) (ah (bd (by omega)) (ah (bd (by omega)) bp))))
 obtain ⟨q4,h4,r4,e4,u4,n4,E4⟩:=grow (σ:=[some (.loc p),some (.int (2+d)),some (.loc h2.length),some (.int x),some (.int y)]) (h1:=h3) (ys:=[.tup [.int 0,.int (2+d)],.tup [.int 0,.int 1]])
  (args:=(aa (mTup (aa (mC (.int 0)) (aa (mVar 1) mNil))) (aa (mTup (aa (mC (.int 0)) (aa (mC (.int 1)) mNil))) mNil))) (by simp) e3 (by omega) (by simp) (Up.refl u3.pen) u3.pen (by simp) E3 (ah (bd (by omega)) (ah (bd (by omega)) bp))
 have up5:=Up.app u4.pen [.lst [.int x,.int y]]
 have hp4:=u4.pen.lt
 obtain ⟨q5,h5,r5,e5,u5,n5,E5⟩:=grow (σ:=[some (.loc p),some (.int (2+d)),some (.loc q4),some (.int x),some (.int y)]) (h1:=h4++[.lst [.int x,.int y]]) (ys:=[.loc h4.length,.tup [.int x],.tup [.int x,.int y,.int 1],.tup [.int x,.tup [.int y]],.tup [.str (toString x),.int y],.tup [.int x,.str (toString y)]])
  (args:=(aa (mLst (aa (mVar 3) (aa (mVar 4) mNil))) (aa (mTup (aa (mVar 3) mNil)) (aa (mTup (aa (mVar 3) (aa (mVar 4) (aa (mC (.int 1)) mNil)))) (aa (mTup (aa (mVar 3) (aa (mTup (aa (mVar 4) mNil)) mNil))) (aa (mTup (aa (mCB fStr (aa (mVar 3) mNil)) (aa (mVar 4) mNil))) (aa (mTup (aa (mVar 3) (aa (mCB fStr (aa (mVar 4) mNil)) mNil))) mNil)))))))
  (by simp) e4 n4 (by simp[newL_2,fu (show x.natAbs<2 ^ 40 by omega),fu (show y.natAbs<2 ^ 40 by omega)]) up5 u4.pen (by simp) E4
  (ah (el_l (o:=.lst [.int x,.int y]) (by simp) (by omega)) (ah (el_t (ah (el_i x) bp) (by simp)) (ah (el_t (ah (el_i x) (ah (el_i y) (ah (el_i 1) bp))) (by simp)) (ah (el_2 (el_i x) (el_t (ah (el_i y) bp) (by simp)) (fun b z=>nomatch z))
   (ah (el_2 (dz _) (el_i y) (fun b z=>by cases z;exact bB (by omega))) (ah (el_2 (el_i x) (dz _) (fun b z=>nomatch z)) bp))))))
 have up6:=Up.app u5.pen [.dic []]
 have hp5:=u5.pen.lt
 obtain ⟨q6,h6,r6,e6,u6,n6,E6⟩:=grow (σ:=[some (.loc p),some (.int (2+d)),some (.loc q5),some (.int x),some (.int y)]) (h1:=h5++[.dic []]) (ys:=[.tup [.bl true,.int 1],.tup [.bl false,.int 1],.tup [.int 1,.bl true],.tup [.non,.int 1],.tup [.int x,.non],.tup [],.non,.int x,.bl true,.str "1/2",.loc h5.length,.str "",.tup [.int 1,.int 1]])
  (args:=(aa (mTup (aa (mC (.bl true)) (aa (mC (.int 1)) mNil))) (aa (mTup (aa (mC (.bl false)) (aa (mC (.int 1)) mNil))) (aa (mTup (aa (mC (.int 1)) (aa (mC (.bl true)) mNil))) (aa (mTup (aa (mC .non) (aa (mC (.int 1)) mNil))) (aa (mTup (aa (mVar 3) (aa (mC .non) mNil))) (aa (mTup mNil) (aa (mC .non) (aa (mVar 3) (aa (mC (.bl true)) (aa (mC (.str "1/2")) (aa mDic (aa (mC (.str "")) (aa (mTup (aa (mC (.int 1)) (aa (mC (.int 1)) mNil))) mNil))))))))))))))
  (by simp) e5 n5 (by simp) up6 u5.pen (by simp) E5
  (ah (el_2 (el_b _) (el_i _) (fun b z=>by cases z;decide)) (ah (el_2 (el_b _) (el_i _) (fun b z=>by cases z;decide)) (ah (el_2 (el_i _) (el_b _) (fun b z=>nomatch z)) (ah (el_2 el_n (el_i _) (fun b z=>by cases z;decide)) (ah (el_2 (el_i _) el_n (fun b z=>nomatch z)) (ah (el_t bp (by simp)) (ah el_n (ah (el_i _) (ah (el_b _) (ah (dz _)
   (ah (el_l (o:=.dic []) (by simp) (by omega)) (ah (dz _) (ah (bd (by decide)) bp)))))))))))))
 have up7:=(Up.app u6.pen [.lst [.int 1]]).trans (Up.app (Up.app u6.pen [.lst [.int 1]]).pen [.dic []])
 have hp6:=u6.pen.lt
 have big60:((10:Int) ^ 60).natAbs.log2<9000:=by decide +kernel
 obtain ⟨q7,h7,r7,e7,u7,n7,E7⟩:=grow (σ:=[some (.loc p),some (.int (2+d)),some (.loc q6),some (.int x),some (.int y)]) (h1:=(h6++[.lst [.int 1]])++[.dic []]) (ys:=[.tup [.int (10 ^ 60+x),.int 1],.tup [.int 1,.int (10 ^ 60)],.tup [.int 0,.int 0],.tup [.int 0,.int (-1)],.tup [.int (-1),.int 1],.tup [.tup [.int 1,.int 2],.tup [.int 1,.int 2]],.tup [.loc h6.length,.int 2],.tup [.int 1,.loc (h6++[MO.lst [.int 1]]).length]])
  (args:=(aa (mTup (aa (mBin opAdd (mBin opPow (mC (.int 10)) (mC (.int 60))) (mVar 3)) (aa (mC (.int 1)) mNil))) (aa (mTup (aa (mC (.int 1)) (aa (mBin opPow (mC (.int 10)) (mC (.int 60))) mNil))) (aa (mTup (aa (mC (.int 0)) (aa (mC (.int 0)) mNil))) (aa (mTup (aa (mC (.int 0)) (aa (mUn opNeg (mC (.int 1))) mNil))) (aa (mTup (aa (mUn opNeg (mC (.int 1))) (aa (mC (.int 1)) mNil))) (aa (mTup (aa (mTup (aa (mC (.int 1)) (aa (mC (.int 2)) mNil))) (aa (mTup (aa (mC (.int 1)) (aa (mC (.int 2)) mNil))) mNil))) (aa (mTup (aa (mLst (aa (mC (.int 1)) mNil)) (aa (mC (.int 2)) mNil))) (aa (mTup (aa (mC (.int 1)) (aa mDic mNil))) mNil)))))))))
  (by simp) e6 n6 (by simp[gp,newL_1,-Int.reducePow]) up7 u6.pen (by simp) E6
  (ah (el_2 (el_i _) (el_i _) (fun b z=>by cases z;decide)) (ah (el_2 (el_i _) (el_i _) (fun b z=>by cases z;exact big60)) (ah (bd (by decide)) (ah (bd (by decide)) (ah (bd (by decide)) (ah (el_2 (bd (by decide)) (bd (by decide)) (fun b z=>nomatch z))
   (ah (el_2 (el_l (o:=.lst [.int 1]) (by simp) (by omega)) (el_i 2) (fun b z=>by cases z;decide)) (ah (el_2 (el_i _) (el_l (o:=.dic []) (by simp) (by simp;omega)) (fun b z=>nomatch z)) bp))))))))
 refine ⟨q7,h7,_,?_,e7,u1.trans (u2.trans (u3.trans (u4.trans (u5.trans (u6.trans u7))))),n7,E7⟩
 unfold bg
 refine (aF rfl).trans ?_
 unfold m_l_things
 have s3:mLst (aa (mTup (aa (mVar 3) (aa (mVar 4) mNil))) (aa (mTup (aa (mBin opMul (mVar 3) (mVar 1)) (aa (mBin opMul (mVar 4) (mVar 1)) mNil))) (aa (mTup (aa (mVar 3) (aa (mBin opSub (mC (.int 0)) (mVar 4)) mNil))) (aa (mTup (aa (mBin opSub (mC (.int 0)) (mVar 3)) (aa (mVar 4) mNil))) (aa (mTup (aa (mVar 3) (aa (mC (.int 0)) mNil))) mNil))))) [some (.loc p),some (.int (2+d)),none,some (.int x),some (.int y)] h2
   = .ok (.loc h2.length) h3:=by simp[m1,m2,newL_5,←hh3]
 have e0:al 5 [PV.loc p]=[some (.loc p),none,none,none,none]:=rfl
 rw[e0]
 have s1:ap aR (aa (mVar 0) mNil) [some (.loc p),none,none,none,none] h=.ok (.tup [.int x,.int y]) h1:=by simp[q1]
 have s2:mBin opAdd (mC (.int 2)) (ap az (aa (mVar 0) (aa (mC (.int 7)) mNil))) [some (.loc p),none,none,some (.int x),some (.int y)] h1=.ok (.int (2+d)) h2:=by simp[q2]
 simp only[bv,ek,s1,eZ,fK,List.length_cons,List.length_nil,if_true,fC,bQ,fy,dg,List.set_cons_succ,List.set_cons_zero,mSet_ap,s2,s3,r4,r5,r6,mRet_ap,r7,rt_ok,fin_rt]
noncomputable abbrev inner:Mst:=(mSeq (mSet 7 (ap am (aa (mVar 4) mNil)))
 (mIf (mOr (mNot (mB (mUn (fIsi ["bool"]) (mVar 7)))) (mB (mBin opNe (mVar 7) (ap aJ (aa (mVar 4) mNil))))) (mRet (mC (.bl false))) mSkip))
theorem gg {h:MH} {p:Nat} {v:PV} {s0 s1 s2 s3 s5 s6 s7:Option PV} (e:El p h v):∃s7',inner [s0,s1,s2,s3,some v,s5,s6,s7] h=.nx [s0,s1,s2,s3,some v,s5,s6,s7'] h:=by
 refine ⟨some (.bl (aM v)),?_⟩
 simp[aT e.ok,cX e.ok e.sm,fIsi,tyP,isaT]
theorem dM {h:MH} {p:Nat} {it:MIt} (ok:it.ok h) {s0 s1 s2 s3 s5 s6:Option PV}:∀(xs:List PV) (s4 s7:Option PV),(∀v∈xs,El p h v)→∃s4' s7',mGo it (gNm 4) inner xs [s0,s1,s2,s3,s4,s5,s6,s7] h=.nx [s0,s1,s2,s3,s4',s5,s6,s7'] h
 | [],s4,s7,_=>⟨s4,s7,cy ok⟩
 | v::r,s4,s7,he=>by
  obtain ⟨s7',q⟩:=gg (s0:=s0) (s1:=s1) (s2:=s2) (s3:=s3) (s5:=s5) (s6:=s6) (s7:=s7) (he v (List.mem_cons_self))
  obtain ⟨s4',s7'',q2⟩:=dM ok (s0:=s0) (s1:=s1) (s2:=s2) (s3:=s3) (s5:=s5) (s6:=s6) r (some v) s7' fun w hw=>he w (List.mem_cons_of_mem _ hw)
  refine ⟨s4',s7'',?_⟩
  rw[bP ok bQ]
  show (inner [s0,s1,s2,s3,some v,s5,s6,s7] h).turn _=_
  rw[q]
  exact q2
noncomputable abbrev outer:Mst:=(mSeq (mSet 3 (ap bJ (aa (mVar 0) (aa (mVar 1) mNil))))
 (mFor (mItS (ap bg (aa (mVar 3) mNil))) (gNm 4) inner))
theorem f8 {h:MH} {ns:List Int} {k:Nat} (hk:k<64) {s2 s3 s4 s5 s6 s7:Option PV}:∃s3' s4' s7' h',outer [some (.frl (ns.map .int)),some (.int k),s2,s3,s4,s5,s6,s7] h=.nx [some (.frl (ns.map .int)),some (.int k),s2,s3',s4',s5,s6,s7'] h':=by
 obtain ⟨m,c,q1⟩:=f9 (h:=h) (ns:=ns) hk
 have hp:bx (h++[.lst [.int m,.int c,.int 0]]) h.length:=⟨m,c,0,by simp⟩
 obtain ⟨q,h2,xs,q2,e2,u2,n2,E2⟩:=d8 hp
 obtain ⟨s4',s7',q3⟩:=dM (it:=⟨xs,[(q,xs)]⟩) (fun r hr=>by rw[List.mem_singleton.mp hr];exact e2) (s0:=some (.frl (ns.map .int))) (s1:=some (.int k)) (s2:=s2) (s3:=some (.loc h.length)) (s5:=s5) (s6:=s6) xs s4 s7 E2
 refine ⟨some (.loc h.length),s4',s7',h2,?_⟩
 show mSeq _ (mFor _ _ inner) _ _=_
 generalize inner=inn at q3 ⊢
 simp[q1,q2,fm e2,q3]
theorem dL {ns:List Int} {it:MIt} (ok:∀h,it.ok h):∀(js:List Nat) (h:MH) (s1 s2 s3 s4 s5 s6 s7:Option PV),(∀j∈js,j<64)→∃s1' s3' s4' s7' h',mGo it (gNm 1) outer (js.map fun (j:Nat)=>PV.int (j:Int)) [some (.frl (ns.map .int)),s1,s2,s3,s4,s5,s6,s7] h=.nx [some (.frl (ns.map .int)),s1',s2,s3',s4',s5,s6,s7'] h'
 | [],h,s1,s2,s3,s4,s5,s6,s7,_=>⟨s1,s3,s4,s7,h,cy (ok h)⟩
 | j::r,h,s1,s2,s3,s4,s5,s6,s7,hj=>by
  obtain ⟨a3,a4,a7,h1,q1⟩:=f8 (h:=h) (ns:=ns) (hj j List.mem_cons_self) (s2:=s2) (s3:=s3) (s4:=s4) (s5:=s5) (s6:=s6) (s7:=s7)
  obtain ⟨b1,b3,b4,b7,h2,q2⟩:=dL ok r h1 (some (.int j)) s2 a3 a4 s5 s6 a7 fun w hw=>hj w (List.mem_cons_of_mem _ hw)
  refine ⟨b1,b3,b4,b7,h2,?_⟩
  rw[List.map_cons,bP (ok h) bQ]
  show (outer [some (.frl (ns.map .int)),some (.int j),s2,s3,s4,s5,s6,s7] h).turn _=_
  rw[q1]
  exact q2
noncomputable abbrev fibB:Mst:=(mPar 5 6 (aa (mVar 6) (aa (mBin opAdd (mVar 5) (mVar 6)) mNil)))
theorem fB {it:MIt} {h:MH} (ok:it.ok h) {s0 s2 s3 s4 s7:Option PV}:∀(xs:List PV) (s1:Option PV) (x y:Int) (n:Nat),Int.gcd x y=1→1≤x→x≤y→y<2 ^ n→∃s1' x' y',mGo it (gNm 1) fibB xs [s0,s1,s2,s3,s4,some (.int x),some (.int y),s7] h=.nx [s0,s1',s2,s3,s4,some (.int x'),some (.int y'),s7] h∧Int.gcd x' y'=1∧1≤x'∧x'≤y'∧y'<2 ^ (n+xs.length)
 | [],s1,x,y,n,g,h1,h2,h3=>⟨s1,x,y,cy ok,g,h1,h2,h3⟩
 | v::r,s1,x,y,n,g,h1,h2,h3=>by
  have g':Int.gcd y (x+y)=1:=by rw[Int.gcd_add_self_right,Int.gcd_comm];exact g
  obtain ⟨s1',x',y',q,a1,a2,a3,a4⟩:=fB ok (s0:=s0) (s2:=s2) (s3:=s3) (s4:=s4) (s7:=s7) r (some v) y (x+y) (n+1) g' (by omega) (by omega) (by rw[Int.pow_succ];omega)
  refine ⟨s1',x',y',?_,a1,a2,a3,by rw[List.length_cons,show n+(r.length+1)=n+1+r.length by omega];exact a4⟩
  rw[bP ok bQ]
  show (fibB [s0,some v,s2,s3,s4,some (.int x),some (.int y),s7] h).turn _=_
  have e:fibB [s0,some v,s2,s3,s4,some (.int x),some (.int y),s7] h=.nx [s0,some v,s2,s3,s4,some (.int y),some (.int (x+y)),s7] h:=by simp
  rw[e]
  exact q
theorem fA {y:Int} {n:Nat} (h0:0<y) (h:y<2 ^ n):y.natAbs.log2<n:=by
 refine (Nat.log2_lt (by omega)).mpr ?_
 have e:((y.natAbs:Nat):Int)=y:=by omega
 have:((y.natAbs:Nat):Int)<((2 ^ n:Nat):Int):=by rw[e,Int.natCast_pow];exact h
 exact Int.ofNat_lt.mp this
theorem law_true:∀ns:List Int,ns.length≤63→∃h',f_law [.frl (ns.map .int)] []=.ok (.bl true) h':=by
 intro ns hl
 obtain ⟨a1,a3,a4,a7,h1,q1⟩:=dL (ns:=ns) (it:=⟨aL 0 4,[]⟩) (fun _=>bY.mpr trivial) [0,1,2,3] [] none none none none none none none (by decide)
 obtain ⟨b1,x,y,q2,g2,x1,xy,y2⟩:=fB (it:=⟨aL 0 1200,[]⟩) (h:=h1) (bY.mpr trivial) (s0:=some (.frl (ns.map .int))) (s2:=none) (s3:=a3) (s4:=a4) (s7:=a7) (aL 0 1200) a1 1 1 1 (by decide) (by decide) (by decide) (by decide)
 rw[cM] at y2
 have hlog:y.natAbs.log2<9000:=Nat.lt_trans (fA (by omega) y2) (by decide)
 have t1:am [.tup [.int x,.int y]] h1=.ok (.bl true) h1:=by
  have ok:tyOk h1 (.tup [.int x,.int y]):=⟨⟨_,rfl⟩,fun xs q z hz=>by cases q;simp at hz;rcases hz with rfl|rfl <;> exact ⟨_,rfl⟩⟩
  rw[aT ok]
  simp[aM,g2]
  omega
 have t2:am [.tup [.int (2 * x),.int (2 * y)]] h1=.ok (.bl false) h1:=by
  have ok:tyOk h1 (.tup [.int (2 * x),.int (2 * y)]):=⟨⟨_,rfl⟩,fun xs q z hz=>by cases q;simp at hz;rcases hz with rfl|rfl <;> exact ⟨_,rfl⟩⟩
  rw[aT ok]
  simp[aM,Int.gcd_mul_left,g2]
 have k1:∀{i:Int} {h:MH},opMul (.int 2) (.int i) h=.ok (.int (2 * i)) h:=aW (by decide)
 have n2:∀{h:MH},newL [.int 1,.int 2] h=.ok (.loc h.length) (h++[.lst [.int 1,.int 2]]):=aN (by simp)
 have er:aL 0 4=[0,1,2,3].map fun (j:Nat)=>PV.int (j:Int):=by simp[aL,List.range,List.range.loop]
 have m0:∀σ,(cs (aa (mC (.int 4)) mNil)) σ []=.ok ⟨aL 0 4,[]⟩ []:=fun σ=>by simp
 have m1:∀σ h,(cs (aa (mC (.int 1200)) mNil)) σ h=.ok ⟨aL 0 1200,[]⟩ h:=fun σ h=>by simp
 unfold f_law
 refine ⟨h1++[.lst [.int 1,.int 2],.lst [.int 1,.int 2]],(aF rfl).trans ?_⟩
 unfold m_law
 have e0:al 8 [PV.frl (ns.map .int)]=[some (.frl (ns.map .int)),none,none,none,none,none,none,none]:=rfl
 rw[e0]
 simp only[bv,eQ,m0,eZ]
 rw[←er] at q1
 rw[q1]
 have s1:mTup (aa (mC (.int 1)) (aa (mC (.int 1)) mNil)) [some (.frl (ns.map .int)),a1,none,a3,a4,none,none,a7] h1=.ok (.tup [.int 1,.int 1]) h1:=by simp
 simp only[dg,bv,ek,s1,eZ,fK,List.length_cons,List.length_nil,if_true,fC,bQ,fy,List.set_cons_succ,List.set_cons_zero,eQ,m1]
 rw[q2]
 have e1:(h1++[MO.lst [.int 1,.int 2]])[h1.length]?=some (.lst [.int 1,.int 2]):=by simp
 have t3:am [.loc h1.length] (h1++[.lst [.int 1,.int 2]])=.ok (.bl false) (h1++[.lst [.int 1,.int 2]]):=by
  have ok:tyOk (h1++[.lst [.int 1,.int 2]]) (.loc h1.length):=⟨⟨"list",by simp[tyP]⟩,(fun xs q=>nomatch q)⟩
  rw[aT ok];rfl
 have t4:opEq (.loc h1.length) (.loc (h1.length+1)) (h1++[.lst [.int 1,.int 2],.lst [.int 1,.int 2]])=.ok (.bl true) (h1++[.lst [.int 1,.int 2],.lst [.int 1,.int 2]]):=by
  simp[opEq,rd,bq,SeqAt.shaped,PyData.canLay0,PyData.canLayAll0,PyData.depth,PyData.depthAll,PyData.eqv,PyData.eqvAll]
 have t5:∀{h:MH},am [.tup [.int (-3),.int 2]] h=.ok (.bl true) h:=fun {h}=>by
  have ok:tyOk h (.tup [.int (-3),.int 2]):=⟨⟨_,rfl⟩,fun xs q z hz=>by cases q;simp at hz;rcases hz with rfl|rfl <;> exact ⟨_,rfl⟩⟩
  rw[aT ok];rfl
 simp[t1,k1,t2,opIs,n2,t3,t4,t5]
end Law
namespace Law
open PySem PySem.Spec PyProof.Rows L2 MM
set_option maxHeartbeats 4000000
def top (i:Nat):Stmt:=PySem.Challenge.pw_fewfills_k03_what_is_a_number.main.body.getD i (.Pass ⟨0,0,0,0⟩)
abbrev bc:Stmt:=top 1
abbrev bE:List Str:=["thing"]
abbrev cQ:List Str:=["isinstance","int","bool"]
abbrev P_is_whole:List Str:=["thing"]
theorem fe {X:Cx} {k:Nat} (hsc:X.env.scope=af bc) (g:Good X bE bE cQ k) (dc:DefCx X) (n3:X.mg "isinstance"=none) (n1:X.mg "bool"=none) (n2:X.mg "int"=none):MSs X (ar bc) m_is_whole :=
 (ak (av (bX (bT g (i:=0) (j:=1) rfl n3 rfl n2 PyProof.Rows.Boot.«int» eD (ac g 0 rfl)) (cn (me_not (bT g (i:=0) (j:=2) rfl n3 rfl n1 PyProof.Rows.Boot.«bool» cF (ac g 0 rfl)))))))
theorem ee:FnScope bE P_is_whole (af bc):=⟨rfl,rfl,rfl,by decide +kernel,rfl,by decide +kernel,by decide +kernel⟩
theorem d9:aG "is_whole" bc P_is_whole:=fun _ _ _ _ _ _ us hl=>match us,hl with | [_],_=>rfl
abbrev bn:Stmt:=top 2
abbrev bW:List Str:=["thing"]
abbrev dk:List Str:=["isinstance","tuple","len"]
abbrev P_is_pair:List Str:=["thing"]
theorem fN {X:Cx} {k:Nat} (hsc:X.env.scope=af bn) (g:Good X bW bW dk k) (dc:DefCx X) (n4:X.mg "len"=none) (n3:X.mg "isinstance"=none) (n8:X.mg "tuple"=none):MSs X (ar bn) m_is_pair :=
 (ak (av (bX (bT g (i:=0) (j:=1) rfl n3 rfl n8 PyProof.Rows.Boot.«tuple» dv (ac g 0 rfl)) (cn (bA (cu g.room) (aC g 2 rfl cr n4 PyProof.Rows.Boot.«len» (ab (ac g 0 rfl) ae)) ad (nomark _))))))
theorem fc:FnScope bW P_is_pair (af bn):=⟨rfl,rfl,rfl,by decide +kernel,rfl,by decide +kernel,by decide +kernel⟩
theorem eX:aG "is_pair" bn P_is_pair:=fun _ _ _ _ _ _ us hl=>match us,hl with | [_],_=>rfl
abbrev ax:Stmt:=top 3
abbrev aO:List Str:=["a","b","rest"]
abbrev bC:List Str:=[]
abbrev P_greatest_shared:List Str:=["a","b"]
theorem cz {X:Cx} {k:Nat} (hsc:X.env.scope=af ax) (g:Good X aO aO bC k) (dc:DefCx X):MSs X (ar ax) m_greatest_shared :=
 (ai (dR g (aV (eS g.room) (ac g 1 rfl) ad (nomark _)) (ai (au g 2 rfl rfl (ag aP (ac g 0 rfl) (ac g 1 rfl)))
 (ai (au g 0 rfl rfl (ac g 1 rfl))
 (ak (au g 1 rfl rfl (ac g 2 rfl))))))
 (ak (av (ac g 0 rfl))))
theorem cm:FnScope aO P_greatest_shared (af ax):=⟨rfl,rfl,rfl,by decide +kernel,rfl,by decide +kernel,by decide +kernel⟩
theorem cq:aG "greatest_shared" ax P_greatest_shared:=fun _ _ _ _ _ _ us hl=>match us,hl with | [_,_],_=>rfl
abbrev aX:Stmt:=top 4
abbrev bw:List Str:=["thing"]
abbrev cC:List Str:=["is_pair","is_whole","greatest_shared","abs"]
abbrev P_is_number:List Str:=["thing"]
theorem d7 {X:Cx} {k:Nat} (hsc:X.env.scope=af aX) (g:Good X bw bw cC k) (dc:DefCx X) (c2:Cal X "greatest_shared" P_greatest_shared aD k) (c0:Cal X "is_whole" P_is_whole be k) (c1:Cal X "is_pair" P_is_pair bo k) (n0:X.mg "abs"=none):MSs X (ar aX) m_is_number :=
 (ai (br (MW.mt (cv (bZ (bS (ao g (j:=0) rfl c1 (ab (ac g 0 rfl) ae)))) (cv (bZ (bS (ao g (j:=1) rfl c0 (ab (aH (ac g 0 rfl) ad (fun _ _=>rfl)) ae)))) (cj (bZ (bS (ao g (j:=1) rfl c0 (ab (aH (ac g 0 rfl) ad (fun _ _=>rfl)) ae)))))))) (ak (av bh)) aY)
 (ak (av (bX (bA oj_ge (aH (ac g 0 rfl) ad (fun _ _=>rfl)) ad (nomark _)) (cn (bA (cu g.room) (ao g (j:=2) rfl c2 (ab (aC g 3 rfl ci n0 PyProof.Rows.Boot.«abs» (ab (aH (ac g 0 rfl) ad (fun _ _=>rfl)) ae)) (ab (aH (ac g 0 rfl) ad (fun _ _=>rfl)) ae))) ad (nomark _)))))))
theorem dE:FnScope bw P_is_number (af aX):=⟨rfl,rfl,rfl,by decide +kernel,rfl,by decide +kernel,by decide +kernel⟩
theorem dG:aG "is_number" aX P_is_number:=fun _ _ _ _ _ _ us hl=>match us,hl with | [_],_=>rfl
abbrev bK:Stmt:=top 6
abbrev cx:List Str:=["_law_script","_law_k","_law_cell"]
abbrev eM:List Str:=["min","len","abs"]
abbrev P_l_pen:List Str:=["_law_script","_law_k"]
theorem b_l_pen {X:Cx} {k:Nat} (hsc:X.env.scope=af bK) (g:Good X cx cx eM k) (dc:DefCx X) (n0:X.mg "abs"=none) (n4:X.mg "len"=none) (n5:X.mg "min"=none):MSs X (ar bK) m_l_pen :=
 (ai (au g 2 rfl rfl (ag aw (ag aU ad (ac g 1 rfl)) ad))
 (ai (br (aV oj_lt (ac g 1 rfl) (aC g 0 rfl (fH g) n5 PyProof.Rows.Boot.«min» (ab (aC g 1 rfl cr n4 PyProof.Rows.Boot.«len» (ab (ac g 0 rfl) ae)) (ab ad ae))) (nomark _)) (ak (au g 2 rfl rfl (aH (ac g 0 rfl) (ac g 1 rfl) (fun _ _=>rfl)))) (ak (br (aV eU (aC g 1 rfl cr n4 PyProof.Rows.Boot.«len» (ab (ac g 0 rfl) ae)) ad (nomark _)) (ak (au g 2 rfl rfl (ag aw (ag aP (aH (ac g 0 rfl) (ag aP (ac g 1 rfl) (aC g 0 rfl (fH g) n5 PyProof.Rows.Boot.«min» (ab (aC g 1 rfl cr n4 PyProof.Rows.Boot.«len» (ab (ac g 0 rfl) ae)) (ab ad ae)))) (fun _ _=>rfl)) (ag bU ad ad)) (ag aU ad (ac g 1 rfl))))) aY)))
 (ai (br (aV oj_ge (aC g 2 rfl ci n0 PyProof.Rows.Boot.«abs» (ab (ac g 2 rfl) ae)) (ag bU ad ad) (nomark _)) (ak (av (aS (ab ad (ab (aC g 2 rfl ci n0 PyProof.Rows.Boot.«abs» (ab (ac g 2 rfl) ae)) (ab ad ae)))))) aY)
 (ak (av (aS (ab ad (ab (ag aw (ag aP (ac g 2 rfl) ad) (ag aU ad (ac g 1 rfl))) (ab ad ae)))))))))
theorem gq:FnScope cx P_l_pen (af bK):=⟨rfl,rfl,rfl,by decide +kernel,rfl,by decide +kernel,by decide +kernel⟩
theorem f6:aG "_law_pen" bK P_l_pen:=fun _ _ _ _ _ _ us hl=>match us,hl with | [_,_],_=>rfl
abbrev bt:Stmt:=top 7
abbrev cc:List Str:=["_law_pen_here","_law_size","_law_number_here","_law_drawn"]
abbrev dJ:List Str:=[]
abbrev P_l_draw:List Str:=["_law_pen_here","_law_size"]
theorem gr {X:Cx} {k:Nat} (hsc:X.env.scope=af bt) (g:Good X cc cc dJ k) (dc:DefCx X):MSs X (ar bt) m_l_draw :=
 (ai (cK (ag aw (aH (ac g 0 rfl) ad (fun _ _=>rfl)) ad) (fR (ac g 0 rfl) ad))
 (ai (br (aV (cu g.room) (aH (ac g 0 rfl) ad (fun _ _=>rfl)) ad (nomark _)) (ai (au g 3 rfl rfl (ag aP (aH (ac g 0 rfl) ad (fun _ _=>rfl)) (ac g 1 rfl)))
 (ai (cK (ag dB (aH (ac g 0 rfl) ad (fun _ _=>rfl)) (ac g 1 rfl)) (fR (ac g 0 rfl) ad))
 (ak (av (ac g 3 rfl))))) aY)
 (ai (au g 2 rfl rfl (ag aP (ag aU (ag aw (ag aw (aH (ac g 0 rfl) ad (fun _ _=>rfl)) (ag aU ad (aH (ac g 0 rfl) ad (fun _ _=>rfl)))) ad) ad) ad))
 (ai (au g 2 rfl rfl (ag aP (ag aU (ac g 2 rfl) (ag aw (ag aw (ag aP (ac g 2 rfl) ad) (aH (ac g 0 rfl) ad (fun _ _=>rfl))) ad)) ad))
 (ak (av (ag aP (ag dB (ag aP (ag aU (ac g 2 rfl) (ag aw (ag aP (ac g 2 rfl) ad) ad)) ad) ad) (ac g 1 rfl))))))))
theorem fT:FnScope cc P_l_draw (af bt):=⟨rfl,rfl,rfl,by decide +kernel,rfl,by decide +kernel,by decide +kernel⟩
theorem fx:aG "_law_draw" bt P_l_draw:=fun _ _ _ _ _ _ us hl=>match us,hl with | [_,_],_=>rfl
abbrev ba:Stmt:=top 8
abbrev bF:List Str:=["_law_top","_law_bottom","_law_one","_law_other"]
abbrev cG:List Str:=["abs"]
abbrev P_l_lowest:List Str:=["_law_top","_law_bottom"]
theorem eV {X:Cx} {k:Nat} (hsc:X.env.scope=af ba) (g:Good X bF bF cG k) (dc:DefCx X) (n0:X.mg "abs"=none):MSs X (ar ba) m_l_lowest :=
 (ai (dO g 2 3 rfl rfl (by decide) (ab (aC g 0 rfl ci n0 PyProof.Rows.Boot.«abs» (ab (ac g 0 rfl) ae)) (ab (aC g 0 rfl ci n0 PyProof.Rows.Boot.«abs» (ab (ac g 1 rfl) ae)) ae)) (by rw[hsc];rfl) (by rw[hsc];rfl) (by revert hsc;generalize X.env=env;intro h;cases env;cases h;rfl))
 (ai (dR g (aV eU (ac g 3 rfl) ad (nomark _)) (ak (dO g 2 3 rfl rfl (by decide) (ab (ac g 3 rfl) (ab (ag aP (ac g 2 rfl) (ac g 3 rfl)) ae)) (by rw[hsc];rfl) (by rw[hsc];rfl) (by revert hsc;generalize X.env=env;intro h;cases env;cases h;rfl))))
 (ai (br (aV oj_lt (ac g 1 rfl) ad (nomark _)) (ak (au g 2 rfl rfl (dC cI (ac g 2 rfl)))) aY)
 (ak (av (aj (ab (ag dB (ac g 0 rfl) (ac g 2 rfl)) (ab (ag dB (ac g 1 rfl) (ac g 2 rfl)) ae))))))))
theorem eh:FnScope bF P_l_lowest (af ba):=⟨rfl,rfl,rfl,by decide +kernel,rfl,by decide +kernel,by decide +kernel⟩
theorem d4:aG "_law_lowest" ba P_l_lowest:=fun _ _ _ _ _ _ us hl=>match us,hl with | [_,_],_=>rfl
abbrev bb:Stmt:=top 9
abbrev bI:List Str:=["_law_pen_here","_law_way"]
abbrev cR:List Str:=["_law_draw","_law_lowest"]
abbrev P_l_number:List Str:=["_law_pen_here"]
theorem fg {X:Cx} {k:Nat} (hsc:X.env.scope=af bb) (g:Good X bI bI cR k) (dc:DefCx X) (c5:Cal X "_law_draw" P_l_draw az k) (c6:Cal X "_law_lowest" P_l_lowest aK k):MSs X (ar bb) m_l_number :=
 (ai (au g 1 rfl rfl (ao g (j:=0) rfl c5 (ab (ac g 0 rfl) (ab ad ae))))
 (ai (br (aV (cu g.room) (ac g 1 rfl) ad (nomark _)) (ak (av (ao g (j:=1) rfl c6 (ab (ag aw (ag b6 (ao g (j:=0) rfl c5 (ab (ac g 0 rfl) (ab (ag b6 (ag aU ad (ag bU ad ad)) ad) ae))) (ag bU ad ad)) ad) (ab (ag aw ad (ao g (j:=0) rfl c5 (ab (ac g 0 rfl) (ab (ag b6 (ag bU ad ad) ad) ae)))) ae))))) aY)
 (ak (av (ao g (j:=1) rfl c6 (ab (ag b6 (ao g (j:=0) rfl c5 (ab (ac g 0 rfl) (ab ad ae))) ad) (ab (ag aw ad (ao g (j:=0) rfl c5 (ab (ac g 0 rfl) (ab (aH (aS (ab ad (ab ad (ab ad ae)))) (ag aP (ac g 1 rfl) ad) (fun _ _=>rfl)) ae)))) ae)))))))
theorem ec:FnScope bI P_l_number (af bb):=⟨rfl,rfl,rfl,by decide +kernel,rfl,by decide +kernel,by decide +kernel⟩
theorem ef:aG "_law_number" bb P_l_number:=fun _ _ _ _ _ _ us hl=>match us,hl with | [_],_=>rfl
abbrev aI:Stmt:=top 10
abbrev bi:List Str:=["_law_thing","_law_one"]
abbrev cf:List Str:=["isinstance","tuple","len","int","bool","_law_lowest"]
abbrev P_l_is_number:List Str:=["_law_thing"]
theorem dw {X:Cx} {k:Nat} (hsc:X.env.scope=af aI) (g:Good X bi bi cf k) (dc:DefCx X) (c6:Cal X "_law_lowest" P_l_lowest aK k) (n3:X.mg "isinstance"=none) (n1:X.mg "bool"=none) (n2:X.mg "int"=none) (n4:X.mg "len"=none) (n8:X.mg "tuple"=none):MSs X (ar aI) m_l_is_number :=
 (ai (br (MW.mt (cv (bZ (bS (bT g (i:=0) (j:=1) rfl n3 rfl n8 PyProof.Rows.Boot.«tuple» dv (ac g 0 rfl)))) (cj (aV (eS g.room) (aC g 2 rfl cr n4 PyProof.Rows.Boot.«len» (ab (ac g 0 rfl) ae)) ad (nomark _))))) (ak (av bh)) aY)
 (ai (cV g (fz (ac g 0 rfl)) (bm g 1 rfl rfl) (ak (br (MW.mt (cv (bZ (bS (bT g (i:=0) (j:=3) rfl n3 rfl n2 PyProof.Rows.Boot.«int» eD (ac g 1 rfl)))) (cj (bS (bT g (i:=0) (j:=4) rfl n3 rfl n1 PyProof.Rows.Boot.«bool» cF (ac g 1 rfl)))))) (ak (av bh)) aY)))
 (ak (av (bX (bA eU (aH (ac g 0 rfl) ad (fun _ _=>rfl)) ad (nomark _)) (cn (bA (cu g.room) (ao g (j:=5) rfl c6 (ab (aH (ac g 0 rfl) ad (fun _ _=>rfl)) (ab (aH (ac g 0 rfl) ad (fun _ _=>rfl)) ae))) (ac g 0 rfl) (nomark _))))))))
theorem df:FnScope bi P_l_is_number (af aI):=⟨rfl,rfl,rfl,by decide +kernel,rfl,by decide +kernel,by decide +kernel⟩
theorem da:aG "_law_is_number" aI P_l_is_number:=fun _ _ _ _ _ _ us hl=>match us,hl with | [_],_=>rfl
abbrev bf:Stmt:=top 11
abbrev bD:List Str:=["_law_pen_here","_law_part","_law_some","_law_top","_law_bottom"]
abbrev cO:List Str:=["_law_number","_law_draw","str"]
abbrev P_l_things:List Str:=["_law_pen_here"]
theorem e8 {X:Cx} {k:Nat} (hsc:X.env.scope=af bf) (g:Good X bD bD cO k) (dc:DefCx X) (c5:Cal X "_law_draw" P_l_draw az k) (c7:Cal X "_law_number" P_l_number aR k) (n7:X.mg "str"=none):MSs X (ar bf) m_l_things :=
 (ai (cK (ao g (j:=0) rfl c7 (ab (ac g 0 rfl) ae)) (fD g (b8 (bm g 3 rfl rfl) (b8 (bm g 4 rfl rfl) eN))))
 (ai (au g 1 rfl rfl (ag aw ad (ao g (j:=1) rfl c5 (ab (ac g 0 rfl) (ab ad ae)))))
 (ai (au g 2 rfl rfl (aS (ab (aj (ab (ac g 3 rfl) (ab (ac g 4 rfl) ae))) (ab (aj (ab (ag aU (ac g 3 rfl) (ac g 1 rfl)) (ab (ag aU (ac g 4 rfl) (ac g 1 rfl)) ae))) (ab (aj (ab (ac g 3 rfl) (ab (ag b6 ad (ac g 4 rfl)) ae))) (ab (aj (ab (ag b6 ad (ac g 3 rfl)) (ab (ac g 4 rfl) ae))) (ab (aj (ab (ac g 3 rfl) (ab ad ae))) ae)))))))
 (ai (au g 2 rfl rfl (ag aw (ac g 2 rfl) (aS (ab (aj (ab ad (ab (ac g 1 rfl) ae))) (ab (aj (ab ad (ab ad ae))) ae)))))
 (ai (au g 2 rfl rfl (ag aw (ac g 2 rfl) (aS (ab (aS (ab (ac g 3 rfl) (ab (ac g 4 rfl) ae))) (ab (aj (ab (ac g 3 rfl) ae)) (ab (aj (ab (ac g 3 rfl) (ab (ac g 4 rfl) (ab ad ae)))) (ab (aj (ab (ac g 3 rfl) (ab (aj (ab (ac g 4 rfl) ae)) ae))) (ab (aj (ab (du g 2 rfl fj n7 PyProof.Rows.Boot.«str» (ab (ac g 3 rfl) ae)) (ab (ac g 4 rfl) ae))) (ab (aj (ab (ac g 3 rfl) (ab (du g 2 rfl fj n7 PyProof.Rows.Boot.«str» (ab (ac g 4 rfl) ae)) ae))) ae)))))))))
 (ai (au g 2 rfl rfl (ag aw (ac g 2 rfl) (aS (ab (aj (ab bh (ab ad ae))) (ab (aj (ab bh (ab ad ae))) (ab (aj (ab ad (ab bh ae))) (ab (aj (ab dW (ab ad ae))) (ab (aj (ab (ac g 3 rfl) (ab dW ae))) (ab (aj ae) (ab dW (ab (ac g 3 rfl) (ab bh (ab ft (ab eA (ab ft (ab (aj (ab ad (ab ad ae))) ae))))))))))))))))
 (ak (av (ag aw (ac g 2 rfl) (aS (ab (aj (ab (ag aw (ag bU ad ad) (ac g 3 rfl)) (ab ad ae))) (ab (aj (ab ad (ab (ag bU ad ad) ae))) (ab (aj (ab ad (ab ad ae))) (ab (aj (ab ad (ab (dC cI ad) ae))) (ab (aj (ab (dC cI ad) (ab ad ae))) (ab (aj (ab (aj (ab ad (ab ad ae))) (ab (aj (ab ad (ab ad ae))) ae))) (ab (aj (ab (aS (ab ad ae)) (ab ad ae))) (ab (aj (ab ad (ab eA ae))) ae))))))))))))))))))
theorem ei:FnScope bD P_l_things (af bf):=⟨rfl,rfl,rfl,by decide +kernel,rfl,by decide +kernel,by decide +kernel⟩
theorem d5:aG "_law_things" bf P_l_things:=fun _ _ _ _ _ _ us hl=>match us,hl with | [_],_=>rfl
abbrev cw:Stmt:=top 12
abbrev dA:List Str:=["_law_script","_law_k","_law_listed","_law_pen_here","_law_thing","_law_one","_law_other","_law_found"]
abbrev G_law:List Str:=["range","_law_pen","_law_things","is_number","isinstance","bool","_law_is_number"]
abbrev P_law:List Str:=["_law_script"]
theorem b_law {X:Cx} {k:Nat} (hsc:X.env.scope=af cw) (g:Good X dA dA G_law k) (dc:DefCx X) (c3:Cal X "is_number" P_is_number am k) (c9:Cal X "_law_things" P_l_things bg k) (c8:Cal X "_law_is_number" P_l_is_number aJ k) (c4:Cal X "_law_pen" P_l_pen bJ k) (n6:X.mg "range"=none) (n3:X.mg "isinstance"=none) (n1:X.mg "bool"=none):MSs X (ar cw) m_law :=
 (ai (cV g (dj (g.gl _ (ay (i:=0) rfl)) n6 (ab ad ae)) (bm g 1 rfl rfl) (ai (au g 3 rfl rfl (ao g (j:=1) rfl c4 (ab (ac g 0 rfl) (ab (ac g 1 rfl) ae))))
 (ak (cV g (fz (ao g (j:=2) rfl c9 (ab (ac g 3 rfl) ae))) (bm g 4 rfl rfl) (ai (au g 7 rfl rfl (ao g (j:=3) rfl c3 (ab (ac g 4 rfl) ae)))
 (ak (br (MW.mt (cv (bZ (bS (bT g (i:=4) (j:=5) rfl n3 rfl n1 PyProof.Rows.Boot.«bool» cF (ac g 7 rfl)))) (cj (aV (eS g.room) (ac g 7 rfl) (ao g (j:=6) rfl c8 (ab (ac g 4 rfl) ae)) (nomark _))))) (ak (av bh)) aY)))))))
 (ai (cK (aj (ab ad (ab ad ae))) (fD g (b8 (bm g 5 rfl rfl) (b8 (bm g 6 rfl rfl) eN))) rfl (by revert hsc;generalize X.env=env;intro h;cases env;cases h;rfl))
 (ai (cV g (dj (g.gl _ (ay (i:=0) rfl)) n6 (ab ad ae)) (bm g 1 rfl rfl) (ak (dO g 5 6 rfl rfl (by decide) (ab (ac g 6 rfl) (ab (ag aw (ac g 5 rfl) (ac g 6 rfl)) ae)) (by rw[hsc];rfl) (by rw[hsc];rfl) (by revert hsc;generalize X.env=env;intro h;cases env;cases h;rfl))))
 (ai (br (MW.mt (cv (aV fF (ao g (j:=3) rfl c3 (ab (aj (ab (ac g 5 rfl) (ab (ac g 6 rfl) ae))) ae)) bh (nomark _)) (cj (aV fF (ao g (j:=3) rfl c3 (ab (aj (ab (ag aU ad (ac g 5 rfl)) (ab (ag aU ad (ac g 6 rfl)) ae))) ae)) bh (nomark _))))) (ak (av bh)) aY)
 (ai (au g 2 rfl rfl (aS (ab ad (ab ad ae))))
 (ak (av (bX (bA oj_is (ao g (j:=3) rfl c3 (ab (ac g 2 rfl) ae)) bh (nomark _)) (bX (bA (cu g.room) (ac g 2 rfl) (aS (ab ad (ab ad ae))) (nomark _)) (cn (bA oj_is (ao g (j:=3) rfl c3 (ab (aj (ab (dC cI ad) (ab ad ae))) ae)) bh (nomark _))))))))))))
theorem sc_law:FnScope dA P_law (af cw):=⟨rfl,rfl,rfl,by decide +kernel,rfl,by decide +kernel,by decide +kernel⟩
theorem fv:aG "law" cw P_law:=fun _ _ _ _ _ _ us hl=>match us,hl with | [_],_=>rfl
theorem all_fn {P:Program} {w:World} {K:PySem.W.Frag} {mg:Str→Option Value} {base:Heap} (kin:K.In base) (ns:base.Ns mainGlobals mg)
  (D0:DefAt K "is_whole" bc)
  (D1:DefAt K "is_pair" bn)
  (D2:DefAt K "greatest_shared" ax)
  (D3:DefAt K "is_number" aX)
  (D4:DefAt K "_law_pen" bK)
  (D5:DefAt K "_law_draw" bt)
  (D6:DefAt K "_law_lowest" ba)
  (D7:DefAt K "_law_number" bb)
  (D8:DefAt K "_law_is_number" aI)
  (D9:DefAt K "_law_things" bf)
  (D10:DefAt K "law" cw)
  (z0:PySem.W.nsIn K mainGlobals "abs"=some none)
  (z1:PySem.W.nsIn K mainGlobals "bool"=some none)
  (z2:PySem.W.nsIn K mainGlobals "int"=some none)
  (z3:PySem.W.nsIn K mainGlobals "isinstance"=some none)
  (z4:PySem.W.nsIn K mainGlobals "len"=some none)
  (z5:PySem.W.nsIn K mainGlobals "min"=some none)
  (z6:PySem.W.nsIn K mainGlobals "range"=some none)
  (z7:PySem.W.nsIn K mainGlobals "str"=some none)
  (z8:PySem.W.nsIn K mainGlobals "tuple"=some none)
   :FnAt P w K mg base "law" P_law f_law 4:=by
 have n0:=PySem.W.mg_none_of kin ns z0
 have n1:=PySem.W.mg_none_of kin ns z1
 have n2:=PySem.W.mg_none_of kin ns z2
 have n3:=PySem.W.mg_none_of kin ns z3
 have n4:=PySem.W.mg_none_of kin ns z4
 have n5:=PySem.W.mg_none_of kin ns z5
 have n6:=PySem.W.mg_none_of kin ns z6
 have n7:=PySem.W.mg_none_of kin ns z7
 have n8:=PySem.W.mg_none_of kin ns z8
 have a0:FnAt P w K mg base "is_whole" P_is_whole be 1:=aZ (k:=0) (N:=bE) (G:=cQ) kin ns D0 ee d9 (by decide +kernel) (by decide +kernel) (by decide +kernel) fun X e1 e2 e3 e4 e5 e6 g dc=>fe e6 g dc (e4▸n3) (e4▸n1) (e4▸n2)
 have a1:FnAt P w K mg base "is_pair" P_is_pair bo 1:=aZ (k:=0) (N:=bW) (G:=dk) kin ns D1 fc eX (by decide +kernel) (by decide +kernel) (by decide +kernel) fun X e1 e2 e3 e4 e5 e6 g dc=>fN e6 g dc (e4▸n4) (e4▸n3) (e4▸n8)
 have a2:FnAt P w K mg base "greatest_shared" P_greatest_shared aD 1:=aZ (k:=0) (N:=aO) (G:=bC) kin ns D2 cm cq (by decide +kernel) (by decide +kernel) (by decide +kernel) fun X e1 e2 e3 e4 e5 e6 g dc=>cz e6 g dc
 have a3:FnAt P w K mg base "is_number" P_is_number am 2:=aZ (k:=1) (N:=bw) (G:=cC) kin ns D3 dE dG (by decide +kernel) (by decide +kernel) (by decide +kernel) fun X e1 e2 e3 e4 e5 e6 g dc=>d7 e6 g dc ((a2.mono (by decide)).cal e1 e2 e3 e4 e5) ((a0.mono (by decide)).cal e1 e2 e3 e4 e5) ((a1.mono (by decide)).cal e1 e2 e3 e4 e5) (e4▸n0)
 have a4:FnAt P w K mg base "_law_pen" P_l_pen bJ 1:=aZ (k:=0) (N:=cx) (G:=eM) kin ns D4 gq f6 (by decide +kernel) (by decide +kernel) (by decide +kernel) fun X e1 e2 e3 e4 e5 e6 g dc=>b_l_pen e6 g dc (e4▸n0) (e4▸n4) (e4▸n5)
 have a5:FnAt P w K mg base "_law_draw" P_l_draw az 1:=aZ (k:=0) (N:=cc) (G:=dJ) kin ns D5 fT fx (by decide +kernel) (by decide +kernel) (by decide +kernel) fun X e1 e2 e3 e4 e5 e6 g dc=>gr e6 g dc
 have a6:FnAt P w K mg base "_law_lowest" P_l_lowest aK 1:=aZ (k:=0) (N:=bF) (G:=cG) kin ns D6 eh d4 (by decide +kernel) (by decide +kernel) (by decide +kernel) fun X e1 e2 e3 e4 e5 e6 g dc=>eV e6 g dc (e4▸n0)
 have a7:FnAt P w K mg base "_law_number" P_l_number aR 2:=aZ (k:=1) (N:=bI) (G:=cR) kin ns D7 ec ef (by decide +kernel) (by decide +kernel) (by decide +kernel) fun X e1 e2 e3 e4 e5 e6 g dc=>fg e6 g dc ((a5.mono (by decide)).cal e1 e2 e3 e4 e5) ((a6.mono (by decide)).cal e1 e2 e3 e4 e5)
 have a8:FnAt P w K mg base "_law_is_number" P_l_is_number aJ 2:=aZ (k:=1) (N:=bi) (G:=cf) kin ns D8 df da (by decide +kernel) (by decide +kernel) (by decide +kernel) fun X e1 e2 e3 e4 e5 e6 g dc=>dw e6 g dc ((a6.mono (by decide)).cal e1 e2 e3 e4 e5) (e4▸n3) (e4▸n1) (e4▸n2) (e4▸n4) (e4▸n8)
 have a9:FnAt P w K mg base "_law_things" P_l_things bg 3:=aZ (k:=2) (N:=bD) (G:=cO) kin ns D9 ei d5 (by decide +kernel) (by decide +kernel) (by decide +kernel) fun X e1 e2 e3 e4 e5 e6 g dc=>e8 e6 g dc ((a5.mono (by decide)).cal e1 e2 e3 e4 e5) ((a7.mono (by decide)).cal e1 e2 e3 e4 e5) (e4▸n7)
 have a10:FnAt P w K mg base "law" P_law f_law 4:=aZ (k:=3) (N:=dA) (G:=G_law) kin ns D10 sc_law fv (by decide +kernel) (by decide +kernel) (by decide +kernel) fun X e1 e2 e3 e4 e5 e6 g dc=>b_law e6 g dc ((a3.mono (by decide)).cal e1 e2 e3 e4 e5) ((a9.mono (by decide)).cal e1 e2 e3 e4 e5) ((a8.mono (by decide)).cal e1 e2 e3 e4 e5) ((a4.mono (by decide)).cal e1 e2 e3 e4 e5) (e4▸n6) (e4▸n3) (e4▸n1)
 exact a10
end Law
open PySem PySem.W PyProof.Rows
local macro_rules | `(tactic| and_intros) => `(tactic| (dsimp only [L2.KOf]; first | k_is | (refine' MM.defAt_mk ?a ?l ?c ?k; (case a => k_is); (case l => k_is); (case c => k_is); (case k => k_is))))
set_option maxRecDepth 100000 in
set_option maxHeartbeats 0 in
theorem PySem.Challenge.cw_fewfills_k03_what_is_a_number_holds : PySem.Challenge.rw_fewfills_k03_what_is_a_number.Holds := by
  w_on; o_law; k_head; (case hw=>w_witness2)
  k_fill
  refine MM.walk_M (l:=PySem.Challenge.rw_fewfills_k03_what_is_a_number) (k:=4) (x:="_law_script") (F:=Law.f_law) rfl rfl ⟨rfl,by decide,by decide,rfl⟩ (fun w h Y=>PySem.W.kIn_of Y) ?F Law.law_true
  case F=>
    intro w mg fa h KX G hmg
    have Dlaw:MM.DefAt (L2.KOf KX) "law" Law.cw:=by and_intros
    have D0:MM.DefAt (L2.KOf KX) "is_whole" Law.bc:=by and_intros
    have D1:MM.DefAt (L2.KOf KX) "is_pair" Law.bn:=by and_intros
    have D2:MM.DefAt (L2.KOf KX) "greatest_shared" Law.ax:=by and_intros
    have D3:MM.DefAt (L2.KOf KX) "is_number" Law.aX:=by and_intros
    have D4:MM.DefAt (L2.KOf KX) "_law_pen" Law.bK:=by and_intros
    have D5:MM.DefAt (L2.KOf KX) "_law_draw" Law.bt:=by and_intros
    have D6:MM.DefAt (L2.KOf KX) "_law_lowest" Law.ba:=by and_intros
    have D7:MM.DefAt (L2.KOf KX) "_law_number" Law.bb:=by and_intros
    have D8:MM.DefAt (L2.KOf KX) "_law_is_number" Law.aI:=by and_intros
    have D9:MM.DefAt (L2.KOf KX) "_law_things" Law.bf:=by and_intros
    have Z10:PySem.W.nsIn (L2.KOf KX) mainGlobals "abs" = some none:=by and_intros
    have Z11:PySem.W.nsIn (L2.KOf KX) mainGlobals "bool" = some none:=by and_intros
    have Z12:PySem.W.nsIn (L2.KOf KX) mainGlobals "int" = some none:=by and_intros
    have Z13:PySem.W.nsIn (L2.KOf KX) mainGlobals "isinstance" = some none:=by and_intros
    have Z14:PySem.W.nsIn (L2.KOf KX) mainGlobals "len" = some none:=by and_intros
    have Z15:PySem.W.nsIn (L2.KOf KX) mainGlobals "min" = some none:=by and_intros
    have Z16:PySem.W.nsIn (L2.KOf KX) mainGlobals "range" = some none:=by and_intros
    have Z17:PySem.W.nsIn (L2.KOf KX) mainGlobals "str" = some none:=by and_intros
    have Z18:PySem.W.nsIn (L2.KOf KX) mainGlobals "tuple" = some none:=by and_intros
    exact MM.head_M Dlaw Law.fv hmg KX G fun base kb nb=>Law.all_fn kb nb D0 D1 D2 D3 D4 D5 D6 D7 D8 D9 Dlaw Z10 Z11 Z12 Z13 Z14 Z15 Z16 Z17 Z18
