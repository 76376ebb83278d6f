import PyProof.Rows.All
import Wide.All
import OpenK.AllK
import Wide.FinOn
import Lean
import PyProof.EqAt
import PyProof.EqKinds
import PyProof.TupleCall
import PyProof.ReprRoads
import PyProof.FitsInt
import PyProof.FitsBits
import PyProof.Rows.IntMath
import PyProof.ConsumeWalk
import PyProof.WalkInts
import PyProof.ListRange
import PyProof.ZipIter
import PyProof.Draws
import PyProof.EnumMake
import PyProof.TupleIter
import PyProof.P3Eq
import PyProof.StrCalls2
import PyProof.StrCalls3
import PyProof.FString
import PySem.Challenge.RW_fewfills_k45_numbers_sheets_rows_shown
set_option Elab.async false
set_option linter.all false
set_option maxRecDepth 100000
namespace L2
open PySem PySem.Spec PyProof.Rows
abbrev Key:=Sum Int Str
def keyIs:Key→Value→Bool
 | .inl k,v=>Value.isInt k v
 | .inr x,v=>Value.isStrOf x v
def keyH (w:World):Key→Int
 | .inl k=>hashInt k
 | .inr x=>hashStr w x
theorem aT:∀{k:Key} {v:Value},keyIs k v=true→(∃i t,k=Sum.inl i∧v=Value.int i t)∨(∃x t,k=Sum.inr x∧v=Value.str x t)
 | .inl i,v,h=>by
  obtain ⟨t,e⟩:=Value.isInt_shape (k:=i) (v:=v) h
  exact .inl ⟨i,t,rfl,e⟩
 | .inr x,v,h=>by
  obtain ⟨t,e⟩:=Value.isStrOf_shape (x:=x) (v:=v) h
  exact .inr ⟨x,t,rfl,e⟩
theorem key_ll (a b:Int):decide ((Sum.inl a:Key)=Sum.inl b)=(a == b):=by
 by_cases e:a=b
 ·subst e;simp
 ·have h:¬(Sum.inl a:Key)=Sum.inl b:=fun q=>e (Sum.inl.inj q)
  rw[decide_eq_false h]
  exact (beq_eq_false_iff_ne.mpr e).symm
theorem key_rr (a b:Str):decide ((Sum.inr a:Key)=Sum.inr b)=decide (a=b):=by
 by_cases e:a=b
 ·subst e;simp
 ·have h:¬(Sum.inr a:Key)=Sum.inr b:=fun q=>e (Sum.inr.inj q)
  rw[decide_eq_false h,decide_eq_false e]
theorem key_lr (a:Int) (b:Str):decide ((Sum.inl a:Key)=Sum.inr b)=false:=decide_eq_false (fun q=>nomatch q)
theorem key_rl (a:Str) (b:Int):decide ((Sum.inr a:Key)=Sum.inl b)=false:=decide_eq_false (fun q=>nomatch q)
def kM (prog:Program) (w:World):PySem.KeyKind prog w Key where
 is:=keyIs
 hash:=keyH w
 inj:=fun v a b ha hb=>by
  rcases aT ha with ⟨i,t,rfl,rfl⟩|⟨x,t,rfl,rfl⟩
  ·rcases aT hb with ⟨j,u,rfl,e⟩|⟨y,u,rfl,e⟩
   ·injection e with e1 _;rw[e1]
   ·exact nomatch e
  ·rcases aT hb with ⟨j,u,rfl,e⟩|⟨y,u,rfl,e⟩
   ·exact nomatch e
   ·injection e with e1 _;rw[e1]
 byValue:=fun k v h=>by
  rcases aT h with ⟨i,t,rfl,rfl⟩|⟨x,t,rfl,rfl⟩ <;> rfl
 pyHash:=fun hv h=>by
  rcases aT hv with ⟨i,t,rfl,rfl⟩|⟨x,t,rfl,rfl⟩
  ·exact wpAny_pyHash_int h
  ·exact wpAny_pyHash_str h
 eqBool:=fun hu hv h=>by
  rcases aT hu with ⟨i,t,rfl,rfl⟩|⟨x,t,rfl,rfl⟩
  ·rcases aT hv with ⟨j,u,rfl,rfl⟩|⟨y,u,rfl,rfl⟩
   ·rw[key_ll] at h;exact wpAny_eqBool_int h
   ·rw[key_lr] at h;exact SeqAt.EqAt.int_str i t y u _ _ _ _ h
  ·rcases aT hv with ⟨j,u,rfl,rfl⟩|⟨y,u,rfl,rfl⟩
   ·rw[key_rl] at h;exact SeqAt.EqAt.str_int x t j u _ _ _ _ h
   ·rw[key_rr] at h;exact wpAny_eqBool_str h
 «strs»:=fun k x t v h=>by
  rcases aT h with ⟨i,u,rfl,e⟩|⟨y,u,rfl,e⟩
  ·exact nomatch e
  ·injection e with e1 _
   subst e1
   cases v <;> rfl
inductive V where
 | non | bl (b:Bool) | int (i:Int) | str (x:Str) | byt (b:Array UInt8) | flt (b:UInt64) | ref (a:Addr) | ty (n:String)
 deriving DecidableEq
def RelV:V→Value→Prop
 | .non,u=>u=Value.none
 | .bl b,u=>u=Value.bool b
 | .int i,u=>∃t,u=Value.int i t
 | .str x,u=>∃t,u=Value.str x t
 | .byt b,u=>∃t,u=Value.bytes b t
 | .flt b,u=>∃t,u=Value.float b t
 | .ref a,u=>u=Value.ref a
 | .ty n,u=>u=Value.type n
abbrev Vals:List V→List Value→Prop:=Paired RelV
theorem Vals.length {xs:List V} {us:List Value} (r:Vals xs us):xs.length=us.length:=Paired.length r
theorem Vals.get:∀{xs:List V} {us:List Value} {i:Nat} {x:V},Vals xs us→xs[i]?=some x→∃u,us[i]?=some u∧RelV x u
 | _,_,_,_,.nil,e=>by simp at e
 | _,_,0,_,.cons r _,e=>by simp at e;subst e;exact ⟨_,rfl,r⟩
 | _,_,i+1,x,.cons _ t,e=>by
  obtain ⟨u,h1,h2⟩:=Vals.get (i:=i) (x:=x) t (by simpa using e)
  exact ⟨u,by simpa using h1,h2⟩
theorem Vals.set {x:V} {u:Value} (r:RelV x u):∀{xs:List V} {us:List Value} (i:Nat),Vals xs us→Vals (xs.set i x) (us.set i u)
 | _,_,_,.nil=>.nil
 | _,_,0,.cons _ t=>.cons r t
 | _,_,i+1,.cons q t=>.cons q (Vals.set r i t)
theorem Vals.append:∀{xs ys:List V} {us ws:List Value},Vals xs us→Vals ys ws→Vals (xs++ys) (us++ws)
 | _,_,_,_,.nil,s=>s
 | _,_,_,_,.cons r t,s=>.cons r (Vals.append t s)
def RelO:Option V→Option Value→Prop
 | some v,some u=>RelV v u
 | none,none=>True
 | _,_=>False
def KV {κ:Type}:List (κ × V)→List (κ × Value)→Prop:=Paired fun (p:κ × V) (q:κ × Value)=>p.1=q.1∧RelV p.2 q.2
def kV:Key→V
 | .inl i=>.int i
 | .inr x=>.str x
inductive HO where
 | lst (xs:List V)
 | tup (xs:List V)
 | dK (kvs:List (Key × V)) | dT (kvs:List (List Key × V))
 | set (S:Int→Bool) (n:Nat)
 | ins (C dx:Addr) (fs:List (Str × V))
 | own (x:Addr)
 | xd (fs:List (Str × V))
 | met (f x:Addr)
 | rng (lo hi:Int)
 | frz (o:Obj) (u:HO)
 | tbl (ps:Array Value)
 | ext (φ:Heap→Prop)
abbrev Hp:=Addr→Option HO
def upd (H:Hp) (a:Addr) (o:HO):Hp:=fun b=>if b=a then some o else H b
theorem bS {H:Hp} {a:Addr} {o:HO}:upd H a o a=some o:=by unfold upd;rw[if_pos rfl]
theorem aD {H:Hp} {a b:Addr} {o:HO} (h:b≠a):upd H a o b=H b:=by unfold upd;rw[if_neg h]
theorem bf {H:Hp} {a b:Addr} {o:HO} (h:H a=some o) (h':H b=none):a≠b:=by
 intro e;subst e;rw[h] at h';cases h'
section
variable (P:Program) (w:World)
def ObjOk (H:Hp) (h:Heap) (a:Addr):HO→Prop
 | .lst xs=>xs.length≤sizeLine∧∃(its:List Value) (n:Nat),Vals xs its∧h.get? a=some { cls:=.type "list",data:=.seq its.toArray n}
 | .tup xs=>xs.length≤sizeLine∧∃its:List Value,Vals xs its∧IsTup h a its.toArray
 | .dK kvs=>kvs.length≤sizeLine∧(a == sysModules)=false∧∃vs,KV kvs vs∧h.DictOf (kM P w) a vs
 | .dT kvs=>kvs.length≤sizeLine∧(a == sysModules)=false∧∃xs:List (List Key × Addr × Value),
   Paired (fun (p:List Key × V) (q:List Key × Addr × Value)=>p.1=q.1∧H q.2.1=some (.tup (p.1.map kV))∧RelV p.2 q.2.2) kvs xs ∧
   ∃o es ep,h.get? a=some o∧o.ExactDict∧o.data=.dict es ep∧es.toList=xs.map (entryOfKey (tupleKind (kM P w)))∧(xs.map (·.1)).Nodup
 | .set S n=>h.SetOf (intKind P w) a S n
 | .ins C dx fs=>H dx=some (.own a)∧fs.length≤1000∧dx≠a∧h.get? a=some (PySem.W.instObj C dx) ∧
   ∃mA,h.Ns1 dx mA∧(∀f,RelO (fs.lookup f) (mA f))∧PySem.Within mA (fs.map (·.1))
 | .own _=>∃o,h.get? a=some o
 | .xd fs=>∃mA,h.Ns1 a mA∧∀f,RelO (fs.lookup f) (mA f)
 | .rng lo hi=>∃t u v,h.get? a=some { cls:=.type "range",data:=.fields #[.int lo t,.int hi u,.int 1 v]}
 | .frz o u=>h.get? a=some o∧ObjOk H h a u
 | .tbl ps=>h.get? a=some { cls:=.none,data:=.fields ps}
 | .met f x=>h.get? a=some (PySem.W.methodObj (.ref f) (.ref x))
 | .ext φ=>φ h∧(∃o,h.get? a=some o)∧∀h1 h2:Heap,φ h1→(∀o,h1.get? a=some o→h2.get? a=some o)→φ h2
def HOk (H:Hp) (h:Heap):Prop:=∀a o,H a=some o→ObjOk P w H h a o
end
section
variable {P:Program} {w:World} {H H':Hp} {h h':Heap} {a:Addr} {o:HO}
theorem ObjOk.lt (x:ObjOk P w H h a o):a<h.objs.size:=by
 cases o with
 | lst xs=>obtain ⟨_,_,_,_,e⟩:=x;exact Heap.lt_size e
 | tup xs=>obtain ⟨_,_,_,p⟩:=x;exact p.lt
 | dK kvs=>obtain ⟨_,_,_,_,o,_,_,e,_⟩:=x;exact Heap.lt_size e
 | dT kvs=>obtain ⟨_,_,_,_,o,_,_,e,_⟩:=x;exact Heap.lt_size e
 | set S n=>obtain ⟨o,_,_,_,e,_⟩:=x;exact Heap.lt_size e
 | ins C dx fs=>obtain ⟨_,_,_,e,_⟩:=x;exact Heap.lt_size e
 | own y=>obtain ⟨_,e⟩:=x;exact Heap.lt_size e
 | xd fs=>obtain ⟨_,⟨_,_,_,e,_⟩,_⟩:=x;exact Heap.lt_size e
 | rng lo hi=>obtain ⟨_,_,_,e⟩:=x;exact Heap.lt_size e
 | frz ob u=>obtain ⟨e,_⟩:=x;exact Heap.lt_size e
 | tbl ps=>exact Heap.lt_size (show h.get? a=some _ from x)
 | met f y=>exact Heap.lt_size (show h.get? a=some _ from x)
 | ext φ=>obtain ⟨_,⟨_,e⟩,_⟩:=x;exact Heap.lt_size e
theorem Paired.mapP {α β:Type} {F G:α→β→Prop}:∀{l₁:List α} {l₂:List β},Paired F l₁ l₂→(∀a b,F a b→G a b)→Paired G l₁ l₂
 | _,_,.nil,_=>.nil
 | _,_,.cons r t,f=>.cons (f _ _ r) (Paired.mapP t f)
theorem ObjOk.stay (x:ObjOk P w H h a o) (k:∀b u,(b=a∨H b=some (.own a))→h.get? b=some u→h'.get? b=some u)
  (ho:∀b,H b=some (.own a)→H' b=some (.own a)) (ht:∀b xs,H b=some (.tup xs)→H' b=some (.tup xs)):ObjOk P w H' h' a o:=by
 induction o with
 | lst xs=>obtain ⟨z,its,n,r,e⟩:=x;exact ⟨z,its,n,r,k _ _ (.inl rfl) e⟩
 | tup xs=>obtain ⟨z,its,r,ob,e,c⟩:=x;exact ⟨z,its,r,ob,k _ _ (.inl rfl) e,c⟩
 | dK kvs=>obtain ⟨z,y,vs,r,ob,es,ep,e,c⟩:=x;exact ⟨z,y,vs,r,ob,es,ep,k _ _ (.inl rfl) e,c⟩
 | dT kvs =>
  obtain ⟨z,y,xs,r,ob,es,ep,e,c⟩:=x
  exact ⟨z,y,xs,Paired.mapP r fun p q z=>⟨z.1,ht _ _ z.2.1,z.2.2⟩,ob,es,ep,k _ _ (.inl rfl) e,c⟩
 | set S n=>obtain ⟨ob,es,ep,t,e,c⟩:=x;exact ⟨ob,es,ep,t,k _ _ (.inl rfl) e,c⟩
 | ins C dx fs =>
  obtain ⟨d,z,ne,e,mA,⟨od,es,ep,e2,c⟩,r⟩:=x
  exact ⟨ho _ d,z,ne,k _ _ (.inl rfl) e,mA,⟨od,es,ep,k _ _ (.inr d) e2,c⟩,r⟩
 | own y=>obtain ⟨ob,e⟩:=x;exact ⟨ob,k _ _ (.inl rfl) e⟩
 | xd fs=>obtain ⟨mA,⟨od,es,ep,e,c⟩,r⟩:=x;exact ⟨mA,⟨od,es,ep,k _ _ (.inl rfl) e,c⟩,r⟩
 | rng lo hi=>obtain ⟨t,u,v,e⟩:=x;exact ⟨t,u,v,k _ _ (.inl rfl) e⟩
 | frz ob u ih=>obtain ⟨e,q⟩:=x;exact ⟨k _ _ (.inl rfl) e,ih q⟩
 | tbl ps =>
  have e:h.get? a=some { cls:=.none,data:=.fields ps}:=x
  show h'.get? a=some { cls:=.none,data:=.fields ps}
  exact k a _ (.inl rfl) e
 | met f y =>
  have e:h.get? a=some (PySem.W.methodObj (.ref f) (.ref y)):=x
  show h'.get? a=some (PySem.W.methodObj (.ref f) (.ref y))
  exact k a _ (.inl rfl) e
 | ext φ=>obtain ⟨p,⟨o,e⟩,st⟩:=x;exact ⟨st _ _ p fun o q=>k _ _ (.inl rfl) q,⟨o,k _ _ (.inl rfl) e⟩,st⟩
theorem HOk.lt (x:HOk P w H h) (e:H a=some o):a<h.objs.size:=(x a o e).lt
theorem HOk.fresh (x:HOk P w H h) (e:h.objs.size≤a):H a=none:=by
 cases q:H a with
 | none=>rfl
 | some u=>exact absurd (Nat.lt_of_lt_of_le (x.lt q) e) (Nat.lt_irrefl _)
theorem HOk.kept (x:HOk P w H h) (k:∀b u,h.get? b=some u→h'.get? b=some u):HOk P w H h':=fun a o e =>
 (x a o e).stay (fun b u _ q=>k b u q) (fun _ q=>q) fun _ _ q=>q
theorem HOk.laid (x:HOk P w H h) (k:∀b u,h.get? b=some u→h'.get? b=some u) (hp:h.objs.size≤a) (new:ObjOk P w (upd H a o) h' a o):HOk P w (upd H a o) h':=fun b u e=>by
 have hn:=x.fresh hp
 by_cases hb:b=a
 ·subst hb;rw[bS] at e;cases e;exact new
 ·rw[aD hb] at e
  exact (x b u e).stay (fun c v _ q=>k c v q) (fun c q=>by rw[aD (bf q hn)];exact q) fun c xs q=>by rw[aD (bf q hn)];exact q
end
def Rd (H:Hp) (a:Addr) (u:HO):Prop:=H a=some u∨∃o,H a=some (.frz o u)
theorem Rd.ok {P:Program} {w:World} {H:Hp} {h:Heap} {a:Addr} {u:HO} (r:Rd H a u) (x:HOk P w H h):ObjOk P w H h a u:=by
 rcases r with r|⟨o,r⟩
 ·exact x a u r
 ·obtain ⟨_,q⟩:=x a _ r
  exact q
def Mut:Option HO→Prop
 | some (.lst _)=>True
 | some (.dK _)=>True
 | some (.dT _)=>True
 | some (.set _ _)=>True
 | some (.ins _ _ _)=>True
 | some (.ext _)=>True
 | _=>False
section
variable {P:Program} {w:World} {H:Hp} {h h':Heap} {x e:Addr} {o':HO}
theorem HOk.write (ok:HOk P w H h) (mu:Mut (H x)) (he:e=x∨H e=some (.own x)) (k:∀b u,b≠e→h.get? b=some u→h'.get? b=some u) (heo:∃u,h'.get? e=some u)
  (new:ObjOk P w (upd H x o') h' x o'):HOk P w (upd H x o') h':=fun b u q=>by
 have nown:∀c y,H c=some (.own y)→c≠x:=fun c y r z=>by subst z;rw[r] at mu;exact mu
 have ntup:∀c xs,H c=some (.tup xs)→c≠x:=fun c xs r z=>by subst z;rw[r] at mu;exact mu
 by_cases hb:b=x
 ·subst hb;rw[bS] at q;cases q;exact new
 ·rw[aD hb] at q
  by_cases hbe:b=e
  ·have q':H b=some (.own x):=by
    rcases he with z|z
    ·exact absurd (hbe.trans z) hb
    ·rw[hbe];exact z
   rw[q] at q';cases q'
   obtain ⟨v,hv⟩:=heo
   exact ⟨v,by rw[hbe];exact hv⟩
  ·refine (ok b u q).stay (fun c v hc r=>k c v ?_ r) (fun c r=>by rw[aD (nown c b r)];exact r) fun c xs r=>by rw[aD (ntup c xs r)];exact r
   rcases hc with rfl|hc
   ·exact hbe
   ·rintro rfl
    rcases he with z|z
    ·exact nown c b hc z
    ·rw[hc] at z;cases z;exact hb rfl
end
structure Un (fs ex:List Addr) (H H':Hp) (h h':Heap):Prop where
 keep:∀b o,h.get? b=some o→H b=none→b∉fs→b∉ex→h'.get? b=some o
 slot:∀b o,h.get? b=some o→H b=none→b∈fs→b∉ex→∃sl,h'.get? b=some { o with slots:=sl}
 free:∀b o,h.get? b=some o→H b=none→b∉ex→H' b=none
 there:∀b o,h.get? b=some o→b∉ex→∃o',h'.get? b=some o'
 tups:∀b xs,H b=some (.tup xs)→H' b=some (.tup xs)
 frzs:∀b o u,H b=some (.frz o u)→H' b=some (.frz o u)
 tbls:∀b ps,H b=some (.tbl ps)→∃more,H' b=some (.tbl (ps++more))
section
variable {fs fs' ex ex':List Addr} {H H1 H2:Hp} {h h1 h2 h':Heap} {a x e:Addr} {o:HO}
theorem Un.any (u:Un fs ex H H1 h h1) {b:Addr} {ob:Obj} (q:h.get? b=some ob) (n:H b=none) (hx:b∉ex):∃sl,h1.get? b=some { ob with slots:=sl}:=by
 by_cases hb:b∈fs
 ·exact u.slot b ob q n hb hx
 ·exact ⟨ob.slots,u.keep b ob q n hb hx⟩
theorem Un.kept (k:∀b u,h.get? b=some u→h'.get? b=some u):Un fs ex H H h h' :=
 ⟨fun b ob q _ _ _=>k b ob q,fun b ob q _ _ _=>⟨ob.slots,k b ob q⟩,fun _ _ _ n _=>n,fun b ob q _=>⟨ob,k b ob q⟩,fun _ _ q=>q,fun _ _ _ q=>q,fun _ ps q=>⟨#[],by rw[q];simp⟩⟩
theorem Un.refl:Un fs ex H H h h:=Un.kept fun _ _ q=>q
theorem Un.laid (k:∀b u,h.get? b=some u→h'.get? b=some u) (hp:h.objs.size≤a) (hn:H a=none):Un fs ex H (upd H a o) h h' where
 keep:=fun b u q _ _ _=>k b u q
 slot:=fun b u q _ _ _=>⟨u.slots,k b u q⟩
 free:=fun b u q n _=>by rw[aD (Nat.ne_of_lt (Nat.lt_of_lt_of_le (Heap.lt_size q) hp))];exact n
 there:=fun b u q _=>⟨u,k b u q⟩
 tups:=fun b xs q=>by rw[aD (bf q hn)];exact q
 frzs:=fun b u xs q=>by rw[aD (bf q hn)];exact q
 tbls:=fun b ps q=>⟨#[],by rw[aD (bf q hn),q];simp⟩
theorem Un.write (mu:Mut (H x)) (he:e=x∨H e=some (.own x)) (k:∀b u,b≠e→h.get? b=some u→h'.get? b=some u) (heo:∃u,h'.get? e=some u):Un fs ex H (upd H x o) h h':=by
 have hx:∀b,H b=none→b≠x:=fun b n z=>by subst z;rw[n] at mu;exact mu
 have hb:∀b,H b=none→b≠e:=fun b n z=>by
  subst z
  rcases he with r|r
  ·exact hx b n r
  ·rw[n] at r;cases r
 have hm:∀b u,H b=some u→¬Mut (some u)→b≠x:=fun b u q nm z=>by subst z;rw[q] at mu;exact nm mu
 refine ⟨fun b u q n _ _=>k b u (hb b n) q,fun b u q n _ _=>⟨u.slots,k b u (hb b n) q⟩,fun b u q n _=>by rw[aD (hx b n)];exact n,fun b u q _=>?_,
  fun b xs q=>by rw[aD (hm b _ q fun z=>z)];exact q,fun b u xs q=>by rw[aD (hm b _ q fun z=>z)];exact q,fun b ps q=>⟨#[],by rw[aD (hm b _ q fun z=>z),q];simp⟩⟩
 by_cases hbe:b=e
 ·subst hbe;exact heo
 ·exact ⟨u,k b u hbe q⟩
end
def trk (h:Heap) (H:Hp):List Addr:=(List.range h.objs.size).filter fun a=>(H a).isSome
def hidT (h:Heap) (H:Hp):Heap:=PySem.W.hideAll h (trk h H)
theorem mx (h:Heap) (H:Hp):(hidT h H).objs.size=h.objs.size:=PySem.W.hideAll_size _ _
theorem nR {h:Heap} {H:Hp} {b:Addr} {o:Obj} (e:h.get? b=some o) (n:H b=none):(hidT h H).get? b=some o :=
 PySem.W.hideAll_get _ e fun hm=>by
  have q:(H b).isSome=true:=(List.mem_filter.mp hm).2
  rw[n] at q;simp at q
theorem of_hidT {h:Heap} {H:Hp} {b:Addr} {o:Obj} (e:(hidT h H).get? b=some o):h.get? b=some o∧H b=none:=by
 have e':h.get? b=some o:=PySem.W.of_hideAll (trk h H) e
 refine ⟨e',?_⟩
 cases q:H b with
 | none=>rfl
 | some x =>
  have hm:b∈trk h H:=List.mem_filter.mpr ⟨List.mem_range.mpr (Heap.lt_size e'),by simp[q]⟩
  have z:(hidT h H).get? b=none:=PySem.W.hideAll_none (trk h H) hm
  rw[z] at e;cases e
structure Mod (K:PySem.W.Frag) (mg:Str→Option Value) (base:Heap):Prop where
 kin:K.In base
 glob:base.Ns mainGlobals mg
 blt:∃mb,base.Ns builtinsNs mb∧∀x:Str,x≠"__name__"→mb x=bootBuiltins x
 nolimit:base.NoLimit
structure Cx where
 prog:Program
 w:World
 K:PySem.W.Frag
 mg:Str→Option Value
 base:Heap
 A:Around
 N:List Str
 s₀:Shared
 H₀:Hp
 env:Env
 outer:List Env
 stack:List Env
 ex:List Addr
 fn:Str→Bool
 calm:Bool
 pn:List (Addr × Obj)
 xe:Value→Shared→Prop
def frs (l:List Env):List Addr:=l.filterMap (·.frame)
abbrev Cx.fs (X:Cx):List Addr:=frs X.outer
def Vis (sc:Scope) (x:Str):Prop:=sc.names.lookup x=some .local∨sc.names.lookup x=some .cell∨sc.names.lookup x=some .free
def Loc (sc:Scope) (x:Str):Prop:=sc.names.lookup x=some .local∨sc.names.lookup x=some .cell
def Look (env:Env) (h:Heap) (m:Str→Option Value) (x:Str) (u:Value):Prop :=
 (env.kindOf x=some .local∧m x=some u)∨((env.kindOf x=some .cell∨env.kindOf x=some .free)∧∃c,env.cells.lookup x=some c∧h.IsCell c (some u))
structure Cx.Ok (X:Cx):Prop where
 mod:Mod X.K X.mg X.base
 kind:X.env.scope.kind=.function
 glob:X.env.globals=mainGlobals
 blt:X.env.builtins=builtinsNs
 above:X.s₀.heap.objs.size≤X.env.locals
 inj:∀x y c,X.env.cells.lookup x=some c→X.env.cells.lookup y=some c→x=y
 has:∀x,(X.env.kindOf x=some .cell∨X.env.kindOf x=some .free)→∃c,X.env.cells.lookup x=some c
 cab:∀x c,X.fn x=true→X.env.cells.lookup x=some c→X.s₀.heap.objs.size≤c
 hd:X.calm=true→X.A.handled=none
 frames:X.A.frames=some X.stack
 stk:X.stack=X.outer∨(X.stack=X.env::X.outer∧X.env.frame=some X.env.locals)
 exf:∀b∈X.ex,b≠X.env.locals∧∀x c,X.env.cells.lookup x=some c→c≠b
 bs:∀b o,X.base.get? b=some o→X.s₀.heap.get? b=some o∧X.H₀ b=none
 bsz:X.base.objs.size≤X.s₀.heap.objs.size
 noex:∀b o,X.base.get? b=some o→b∉X.ex
 exfs:∀b∈X.ex,b∉X.fs
 funs:X.s₀.heap.FunFrames X.base X.outer
 frf:∀b∈X.fs,X.H₀ b=none
structure Inv (X:Cx) (pins:List (Addr × Obj)) (σ:List (Option V)) (H:Hp) (s:Shared):Prop where
 ok:X.Ok
 os:s.os=X.s₀.os
 bare:AllBare s.gens
 base:Un X.fs X.ex X.H₀ H X.s₀.heap s.heap
 loc:∃m,s.heap.Ns X.env.locals m∧∀(i:Nat) (x:Str) (v:V),X.N[i]?=some x→σ[i]?=some (some v)→Vis X.env.scope x→∃u,RelV v u∧Look X.env s.heap m x u
 cell:∀x c,X.env.cells.lookup x=some c→∃v,s.heap.IsCell c v
 free:H X.env.locals=none
 freeC:∀x c,X.env.cells.lookup x=some c→H c=none
 pin:∀p∈X.pn++pins,s.heap.get? p.1=some p.2∧H p.1=none∧p.1≠X.env.locals∧p.1∉X.fs∧∀v,p.2.data≠.cell v
 hok:HOk X.prog X.w H s.heap
 len:σ.length=X.N.length
section
variable {X:Cx} {pins:List (Addr × Obj)} {σ:List (Option V)} {H H':Hp} {s:Shared} {h':Heap}
theorem Cx.Ok.nofr (ok:X.Ok) {b:Addr} {o:Obj} (e:X.base.get? b=some o):b∉X.fs:=fun hb=>by
 have:=(ok.funs.mem hb).1
 rw[e] at this;cases this
theorem Inv.bs (I:Inv X pins σ H s):∀b o,X.base.get? b=some o→s.heap.get? b=some o∧H b=none:=fun b o e =>
 ⟨I.base.keep b o (I.ok.bs b o e).1 (I.ok.bs b o e).2 (I.ok.nofr e) (I.ok.noex b o e),I.base.free b o (I.ok.bs b o e).1 (I.ok.bs b o e).2 (I.ok.noex b o e)⟩
theorem Inv.bk (I:Inv X pins σ H s):∀b o,X.base.get? b=some o→s.heap.get? b=some o:=fun b o e=>(I.bs b o e).1
theorem Inv.mod (I:Inv X pins σ H s):Mod X.K X.mg X.base:=I.ok.mod
theorem Inv.kIn (I:Inv X pins σ H s):X.K.In s.heap:=I.ok.mod.kin.keeps I.bk
theorem Inv.lt (I:Inv X pins σ H s):X.env.locals<s.heap.objs.size:=let ⟨_,hn,_⟩:=I.loc;hn.lt
theorem Inv.sz (I:Inv X pins σ H s):X.s₀.heap.objs.size≤s.heap.objs.size:=Nat.le_trans I.ok.above (Nat.le_of_lt I.lt)
theorem Inv.nofs (I:Inv X pins σ H s) {a:Addr} (h:s.heap.objs.size≤a):a∉X.fs:=fun hb=>by
 obtain ⟨_,o,ho,_⟩:=I.ok.funs.mem hb
 exact absurd (Nat.lt_of_lt_of_le (Heap.lt_size ho) (Nat.le_trans I.sz h)) (Nat.lt_irrefl _)
theorem Inv.cne (I:Inv X pins σ H s):∀x c,X.env.cells.lookup x=some c→c≠X.env.locals:=fun x c e z=>by
 obtain ⟨v,o,ho,hd⟩:=I.cell x c e
 obtain ⟨m,⟨o',es,ep,ho',hd',_⟩,_⟩:=I.loc
 rw[z,ho'] at ho;cases ho;rw[hd'] at hd;cases hd
theorem Inv.funs (I:Inv X pins σ H s):s.heap.FunFrames X.base X.outer:=by
 have all:∀(l:List Env),(∀b∈frs l,b∈X.fs)→X.s₀.heap.FunFrames X.base l→s.heap.FunFrames X.base l:=by
  intro l
  induction l with
  | nil=>intro _ _;trivial
  | cons env r ih =>
   intro hs hl
   obtain ⟨hk,⟨L,o,hf,hn,ho,hd⟩,hr⟩:=hl
   have hL:L∈X.fs:=hs L (by unfold frs;rw[List.filterMap_cons,hf];exact List.mem_cons_self)
   obtain ⟨sl,e⟩:=I.base.slot L o ho (I.ok.frf L hL) hL fun z=>I.ok.exfs L z hL
   exact ⟨hk,⟨L,_,hf,hn,e,hd⟩,ih (fun b hb=>hs b (by unfold frs;rw[List.filterMap_cons,hf];exact List.mem_cons_of_mem _ hb)) hr⟩
 exact all X.outer (fun _ hb=>hb) I.ok.funs
theorem Inv.stack (I:Inv X pins σ H s):s.heap.FunFrames X.base X.stack:=by
 rcases I.ok.stk with e|⟨e,hf⟩
 ·rw[e];exact I.funs
 ·rw[e]
  obtain ⟨m,hn,_⟩:=I.loc
  refine .cons (by rw[I.ok.kind];decide) hf hn ?_ I.funs
  exact Heap.get?_none_of_le (Nat.le_trans I.ok.bsz I.ok.above)
theorem Inv.stkSub (I:Inv X pins σ H s):∀b∈frs X.stack,b∈X.env.locals::X.fs:=fun b hb=>by
 rcases I.ok.stk with e|⟨e,hf⟩
 ·rw[e] at hb;exact List.mem_cons_of_mem _ hb
 ·rw[e] at hb
  unfold frs at hb
  rw[List.filterMap_cons,hf] at hb
  exact hb
theorem Inv.stkFree (I:Inv X pins σ H s):∀b∈frs X.stack,H b=none:=fun b hb=>by
 rcases List.mem_cons.mp (I.stkSub b hb) with e|hb
 ·rw[e];exact I.free
 ·obtain ⟨_,o,ho,_⟩:=I.ok.funs.mem hb
  exact I.base.free b o ho (I.ok.frf b hb) fun z=>I.ok.exfs b z hb
theorem Inv.step {g':Array GenState} {t':Nat} {d':Drawn} {ch:List Addr} (I:Inv X pins σ H s)
  (hch:∀b∈ch,(b∈X.ex∨X.s₀.heap.objs.size≤b)∧b≠X.env.locals∧(∀x c,X.env.cells.lookup x=some c→c≠b)∧∀p∈X.pn++pins,p.1≠b)
  (keep:∀b o,b≠X.env.locals→b∉X.fs→b∉ch→s.heap.get? b=some o→H b=none→h'.get? b=some o)
  (slot:∀b o,b≠X.env.locals→b∈X.fs→b∉ch→s.heap.get? b=some o→H b=none→∃sl,h'.get? b=some { o with slots:=sl}) (free:∀b o,b∉ch→s.heap.get? b=some o→H b=none→H' b=none)
  (there:∀b o,b∉ch→s.heap.get? b=some o→∃o',h'.get? b=some o')
  (tups:∀b xs,H b=some (.tup xs)→H' b=some (.tup xs)) (frzs:∀b o u,H b=some (.frz o u)→H' b=some (.frz o u)) (tbls:∀b ps,H b=some (.tbl ps)→∃more,H' b=some (.tbl (ps++more)))
  (ns:∀m,s.heap.Ns X.env.locals m→h'.Ns X.env.locals m) (hok:HOk X.prog X.w H' h') (hg:AllBare g') :
  Inv X pins σ H' { s with heap:=h',gens:=g',drawn:=d',toks:=t'}:=by
 have neL:∀b o,X.s₀.heap.get? b=some o→b≠X.env.locals:=fun b o e=>Nat.ne_of_lt (Nat.lt_of_lt_of_le (Heap.lt_size e) I.ok.above)
 have neC:∀b o,X.s₀.heap.get? b=some o→b∉X.ex→b∉ch:=fun b o e hx hb=>by
  rcases (hch b hb).1 with z|z
  ·exact hx z
  ·exact absurd (Nat.lt_of_lt_of_le (Heap.lt_size e) z) (Nat.lt_irrefl _)
 have cellK:∀x c,X.env.cells.lookup x=some c→∀v,s.heap.IsCell c v→h'.IsCell c v:=fun x c e v ⟨o,ho,hd⟩=>by
  have nch:c∉ch:=fun z=>(hch c z).2.2.1 x c e rfl
  by_cases hc:c∈X.fs
  ·obtain ⟨sl,q⟩:=slot c o (I.cne x c e) hc nch ho (I.freeC x c e)
   exact ⟨_,q,hd⟩
  ·exact ⟨o,keep c o (I.cne x c e) hc nch ho (I.freeC x c e),hd⟩
 refine ⟨I.ok,I.os,hg,⟨fun b o e n hb hx=>?_,fun b o e n hb hx=>?_,fun b o e n hx=>?_,fun b o e hx=>?_,fun b xs e=>tups b xs (I.base.tups b xs e),fun b o xs e=>frzs b o xs (I.base.frzs b o xs e),fun b ps e=>?_⟩,?_,fun x c e=>?_,?_,fun x c e=>?_,fun p hp=>?_,hok,I.len⟩
 ·exact keep b o (neL b o e) hb (neC b o e hx) (I.base.keep b o e n hb hx) (I.base.free b o e n hx)
 ·obtain ⟨sl,e1⟩:=I.base.slot b o e n hb hx
  obtain ⟨sl',e2⟩:=slot b _ (neL b o e) hb (neC b o e hx) e1 (I.base.free b o e n hx)
  exact ⟨sl',e2⟩
 ·obtain ⟨o',e1⟩:=I.base.there b o e hx
  exact free b o' (neC b o e hx) e1 (I.base.free b o e n hx)
 ·obtain ⟨o',e1⟩:=I.base.there b o e hx
  exact there b o' (neC b o e hx) e1
 ·obtain ⟨m1,e1⟩:=I.base.tbls b ps e
  obtain ⟨m2,e2⟩:=tbls b _ e1
  exact ⟨m1++m2,by rw[e2,Array.append_assoc]⟩
 ·obtain ⟨m,hn,hl⟩:=I.loc
  refine ⟨m,ns m hn,fun i x v e1 e2 e3=>?_⟩
  obtain ⟨u,r,l⟩:=hl i x v e1 e2 e3
  refine ⟨u,r,?_⟩
  rcases l with l|⟨k,c,e,z⟩
  ·exact .inl l
  ·exact .inr ⟨k,c,e,cellK x c e _ z⟩
 ·obtain ⟨v,z⟩:=I.cell x c e
  exact ⟨v,cellK x c e v z⟩
 ·obtain ⟨m,⟨o,_,_,ho,_⟩,_⟩:=I.loc
  exact free _ o (fun z=>(hch _ z).2.1 rfl) ho I.free
 ·obtain ⟨v,o,ho,hd⟩:=I.cell x c e
  exact free c o (fun z=>(hch c z).2.2.1 x c e rfl) ho (I.freeC x c e)
 ·obtain ⟨e,n,ne,nf,d⟩:=I.pin p hp
  have nch:p.1∉ch:=fun z=>(hch p.1 z).2.2.2 p hp rfl
  exact ⟨keep p.1 p.2 ne nf nch e n,free p.1 p.2 nch e n,ne,nf,d⟩
theorem Inv.un {t':Nat} (I:Inv X pins σ H s) (u:Un X.fs [] H H' s.heap h') (hok:HOk X.prog X.w H' h'):Inv X pins σ H' { s with heap:=h',toks:=t'}:=by
 obtain ⟨m,⟨o,es,ep,ho,r⟩,_⟩:=id I.loc
 obtain ⟨sl,hL⟩:=u.any ho I.free (by simp)
 exact I.step (g':=s.gens) (d':=s.drawn) (ch:=[]) (fun _ z=>nomatch z) (fun b o _ hb _ e n=>u.keep b o e n hb (by simp)) (fun b o _ hb _ e n=>u.slot b o e n hb (by simp)) (fun b o _ e n=>u.free b o e n (by simp)) (fun b o _ e=>u.there b o e (by simp)) u.tups u.frzs u.tbls (fun m' hm=>by
  obtain ⟨o',es',ep',ho',r'⟩:=hm
  rw[ho] at ho';cases ho'
  exact ⟨_,es',ep',hL,r'⟩) hok I.bare
theorem Inv.call {g':Array GenState} {t':Nat} {d':Drawn} {ch:List Addr} (I:Inv X pins σ H s) (u:Un (frs X.stack) ch H H' s.heap h') (hok:HOk X.prog X.w H' h') (hg:AllBare g')
  (hch:∀b∈ch,(b∈X.ex∨X.s₀.heap.objs.size≤b)∧b≠X.env.locals∧(∀x c,X.env.cells.lookup x=some c→c≠b)∧∀p∈X.pn++pins,p.1≠b) :
  Inv X pins σ H' { s with heap:=h',gens:=g',drawn:=d',toks:=t'}:=by
 obtain ⟨m,⟨o,es,ep,ho,r⟩,_⟩:=id I.loc
 obtain ⟨sl,hL⟩:=u.any ho I.free fun z=>(hch _ z).2.1 rfl
 exact I.step (ch:=ch) hch (fun b o hL hb hc e n=>u.keep b o e n (fun z=>(List.mem_cons.mp (I.stkSub b z)).elim hL hb) hc) (fun b o _ _ hc e n=>u.any e n hc) (fun b o hc e n=>u.free b o e n hc) (fun b o hc e=>u.there b o e hc) u.tups u.frzs u.tbls (fun m' hm=>by
  obtain ⟨o',es',ep',ho',r'⟩:=hm
  rw[ho] at ho';cases ho'
  exact ⟨_,es',ep',hL,r'⟩) hok hg
theorem Inv.turned {t':Nat} {it:Addr} (I:Inv X pins σ H s) (k:∀b o,b≠it→s.heap.get? b=some o→h'.get? b=some o) (hn:H it=none) (hL:it≠X.env.locals)
  (h1:it∈X.ex∨X.s₀.heap.objs.size≤it) (h2:∀x c,X.env.cells.lookup x=some c→c≠it) (h3:∀p∈X.pn++pins,p.1≠it):Inv X pins σ H { s with heap:=h',toks:=t'}:=by
 have nit:∀b u,H b=some u→b≠it:=fun b u e z=>by rw[z,hn] at e;cases e
 refine I.step (g':=s.gens) (d':=s.drawn) (ch:=[it]) (fun b hb=>?_) (fun b o _ _ hc e _=>k b o (fun z=>hc (by simp[z])) e) (fun b o _ _ hc e _=>⟨o.slots,k b o (fun z=>hc (by simp[z])) e⟩) (fun _ _ _ _ n=>n)
  (fun b o hc e=>⟨o,k b o (fun z=>hc (by simp[z])) e⟩) (fun _ _ e=>e) (fun _ _ _ e=>e) (fun b ps e=>⟨#[],by rw[e];simp⟩) (fun m hm=>?_) (fun b u e=>?_) I.bare
 ·have e:b=it:=by simpa using hb
  subst e
  exact ⟨h1,hL,h2,h3⟩
 ·obtain ⟨o,es,ep,ho,r⟩:=hm
  exact ⟨o,es,ep,k _ o (Ne.symm hL) ho,r⟩
 ·refine (I.hok b u e).stay (fun c v hc q=>k c v ?_ q) (fun _ q=>q) fun _ _ q=>q
  rcases hc with z|z
  ·rw[z];exact nit b u e
  ·exact nit c _ z
theorem Inv.tok (I:Inv X pins σ H s) (t:Nat):Inv X pins σ H { s with toks:=t}:=I.un (h':=s.heap) (t':=t) Un.refl I.hok
theorem Inv.kept {t':Nat} (I:Inv X pins σ H s) (k:∀b u,s.heap.get? b=some u→h'.get? b=some u):Inv X pins σ H { s with heap:=h',toks:=t'}:=I.un (Un.kept k) (I.hok.kept k)
theorem Inv.laid {a:Addr} {o:HO} {t':Nat} (I:Inv X pins σ H s) (k:∀b u,s.heap.get? b=some u→h'.get? b=some u) (hp:s.heap.objs.size≤a) (new:ObjOk X.prog X.w (upd H a o) h' a o) :
  Inv X pins σ (upd H a o) { s with heap:=h',toks:=t'}:=I.un (Un.laid k hp (I.hok.fresh hp)) (I.hok.laid k hp new)
theorem Inv.write {x e:Addr} {o:HO} {t':Nat} (I:Inv X pins σ H s) (mu:Mut (H x)) (he:e=x∨H e=some (.own x)) (k:∀b u,b≠e→s.heap.get? b=some u→h'.get? b=some u) (heo:∃u,h'.get? e=some u)
  (new:ObjOk X.prog X.w (upd H x o) h' x o):Inv X pins σ (upd H x o) { s with heap:=h',toks:=t'}:=I.un (Un.write mu he k heo) (I.hok.write mu he k heo new)
theorem Inv.pins_of {pins':List (Addr × Obj)} (I:Inv X pins σ H s) (h:∀p∈pins',s.heap.get? p.1=some p.2∧H p.1=none∧p.1≠X.env.locals∧p.1∉X.fs∧∀v,p.2.data≠.cell v):Inv X pins' σ H s :=
 ⟨I.ok,I.os,I.bare,I.base,I.loc,I.cell,I.free,I.freeC,fun p hp=>(List.mem_append.mp hp).elim (fun z=>I.pin p (List.mem_append_left _ z)) (h p),I.hok,I.len⟩
theorem jS {N:List Str} (hN:N.Nodup) {i j:Nat} {x:Str} (a:N[i]?=some x) (b:N[j]?=some x):i=j:=by
 obtain ⟨h1,e1⟩:=List.getElem?_eq_some_iff.mp a
 obtain ⟨h2,e2⟩:=List.getElem?_eq_some_iff.mp b
 exact (List.getElem_inj hN).mp (e1.trans e2.symm)
theorem mJ {M:Model} {A:Around} {E:Value→Shared→Prop} {i:Nat} {x:Str} {v:V} {u:Value} {Q:Unit→Shared→Prop} (I:Inv X pins σ H s) (hN:X.N.Nodup) (hi:X.N[i]?=some x) (hx:Loc X.env.scope x) (r:RelV v u)
  (h:∀s',Inv X pins (σ.set i (some v)) H s'→(∃a,Heap.SameBut a s.heap s'.heap∧(a=X.env.locals∨X.env.cells.lookup x=some a))→Q () s') (hf:X.fn x=true∨X.env.scope.names.lookup x=some .local:=by first | exact .inl rfl | exact .inr rfl | assumption):wpAny M A (storeName X.env x u) Q E s:=by
 obtain ⟨m,hn,hl⟩:=id I.loc
 have hcls:(X.env.scope.kind == .class || (X.env.scope.kind == .module && X.env.locals != X.env.globals))=false:=by rw[I.ok.kind];rfl
 have hiσ:i<σ.length:=by rw[I.len];exact (List.getElem?_eq_some_iff.mp hi).1
 have cne:=I.cne
 have tracked:∀{a:Addr} {h':Heap},(∃o,s.heap.get? a=some o∧H a=none)→Heap.SameBut a s.heap h'→HOk X.prog X.w H h':=fun {a h'} ha hs b ob e=>by
  obtain ⟨_,_,hfree⟩:=ha
  refine (I.hok b ob e).stay (fun c w' hc q=>(hs.2 c ?_).trans q) (fun _ q=>q) fun _ _ q=>q
  rintro rfl
  rcases hc with rfl|hc
  ·rw[hfree] at e;cases e
  ·rw[hfree] at hc;cases hc
 rcases hx with hk|hk
 ·refine wpAny_storeName_local hk hn (fun h' hn' hs=>?_) hcls
  obtain ⟨oL,_,_,hoL,_⟩:=id hn
  refine h _ ⟨I.ok,I.os,I.bare,⟨fun b o e n hb hx=>?_,fun b o e n hb hx=>?_,I.base.free,fun b o e hx=>?_,I.base.tups,I.base.frzs,I.base.tbls⟩,⟨_,hn',fun j y v' e1 e2 e3=>?_⟩,fun y c e=>?_,I.free,I.freeC,fun p hp=>?_,tracked ⟨oL,hoL,I.free⟩ hs,by simpa using I.len⟩ ⟨_,hs,.inl rfl⟩
  ·exact (hs.2 b (Nat.ne_of_lt (Nat.lt_of_lt_of_le (Heap.lt_size e) I.ok.above))).trans (I.base.keep b o e n hb hx)
  ·obtain ⟨sl,e1⟩:=I.base.slot b o e n hb hx
   exact ⟨sl,(hs.2 b (Nat.ne_of_lt (Nat.lt_of_lt_of_le (Heap.lt_size e) I.ok.above))).trans e1⟩
  ·obtain ⟨o',e1⟩:=I.base.there b o e hx
   exact ⟨o',(hs.2 b (Nat.ne_of_lt (Nat.lt_of_lt_of_le (Heap.lt_size e) I.ok.above))).trans e1⟩
  ·by_cases hj:j=i
   ·subst hj
    rw[hi] at e1;cases e1
    rw[List.getElem?_set_self hiσ] at e2
    cases e2
    exact ⟨u,r,.inl ⟨hk,by simp⟩⟩
   ·rw[List.getElem?_set_ne (Ne.symm hj)] at e2
    obtain ⟨u',r',q⟩:=hl j y v' e1 e2 e3
    refine ⟨u',r',?_⟩
    rcases q with ⟨k,e⟩|⟨k,c,e,z⟩
    ·refine .inl ⟨k,?_⟩
     have:y≠x:=fun e=>hj (jS hN e1 (e▸hi))
     simp[this,e]
    ·exact .inr ⟨k,c,e,z.sameBut hs (cne y c e)⟩
  ·obtain ⟨w',z⟩:=I.cell y c e
   exact ⟨w',z.sameBut hs (cne y c e)⟩
  ·obtain ⟨e,n,ne,nf,d⟩:=I.pin p hp
   exact ⟨(hs.2 p.1 ne).trans e,n,ne,nf,d⟩
 ·have hfn:X.fn x=true:=by
   rcases hf with z|z
   ·exact z
   ·rw[z] at hk;cases hk
  obtain ⟨c,hc⟩:=I.ok.has x (.inl hk)
  obtain ⟨w',z⟩:=I.cell x c hc
  refine wpAny_storeName_cell I.ok.kind hk hc z (fun h' hc' hs=>?_)
  obtain ⟨oc,hoc,hocd⟩:=id z
  refine h { s with heap:=h'} ⟨I.ok,I.os,I.bare,⟨fun b o e n hb hx=>?_,fun b o e n hb hx=>?_,I.base.free,fun b o e hx=>?_,I.base.tups,I.base.frzs,I.base.tbls⟩,⟨m,hn.sameBut hs (Ne.symm (cne x c hc)),fun j y v' e1 e2 e3=>?_⟩,fun y c' e=>?_,I.free,I.freeC,fun p hp=>?_,tracked ⟨oc,hoc,I.freeC x c hc⟩ hs,by simpa using I.len⟩ ⟨c,hs,.inr hc⟩
  ·exact (hs.2 b (Nat.ne_of_lt (Nat.lt_of_lt_of_le (Heap.lt_size e) (I.ok.cab x c hfn hc)))).trans (I.base.keep b o e n hb hx)
  ·obtain ⟨sl,e1⟩:=I.base.slot b o e n hb hx
   exact ⟨sl,(hs.2 b (Nat.ne_of_lt (Nat.lt_of_lt_of_le (Heap.lt_size e) (I.ok.cab x c hfn hc)))).trans e1⟩
  ·obtain ⟨o',e1⟩:=I.base.there b o e hx
   exact ⟨o',(hs.2 b (Nat.ne_of_lt (Nat.lt_of_lt_of_le (Heap.lt_size e) (I.ok.cab x c hfn hc)))).trans e1⟩
  ·by_cases hj:j=i
   ·subst hj
    rw[hi] at e1;cases e1
    rw[List.getElem?_set_self hiσ] at e2
    cases e2
    exact ⟨u,r,.inr ⟨.inl hk,c,hc,hc'⟩⟩
   ·rw[List.getElem?_set_ne (Ne.symm hj)] at e2
    obtain ⟨u',r',q⟩:=hl j y v' e1 e2 e3
    refine ⟨u',r',?_⟩
    rcases q with q|⟨k,c',e,z'⟩
    ·exact .inl q
    ·refine .inr ⟨k,c',e,z'.sameBut hs ?_⟩
     rintro rfl
     exact hj (jS hN e1 (I.ok.inj _ _ _ e hc▸hi))
  ·by_cases hcc:c'=c
   ·subst hcc;exact ⟨_,hc'⟩
   ·obtain ⟨w2,z2⟩:=I.cell y c' e
    exact ⟨w2,z2.sameBut hs hcc⟩
  ·obtain ⟨e,n,ne,nf,d⟩:=I.pin p hp
   refine ⟨(hs.2 p.1 ?_).trans e,n,ne,nf,d⟩
   intro q
   rw[q,hoc] at e
   have q':oc=p.2:=Option.some.inj e
   exact d w' (by rw[←q'];exact hocd)
theorem eU {M:Model} {A:Around} {E:Value→Shared→Prop} {i:Nat} {x:Str} {v:V} {u:Value} {Q:Unit→Shared→Prop} (I:Inv X pins σ H s) (hN:X.N.Nodup) (hi:X.N[i]?=some x) (hx:Loc X.env.scope x) (r:RelV v u)
  (h:∀s',Inv X pins (σ.set i (some v)) H s'→Q () s') (hf:X.fn x=true∨X.env.scope.names.lookup x=some .local:=by first | exact .inl rfl | exact .inr rfl | assumption):wpAny M A (storeName X.env x u) Q E s :=
 mJ I hN hi hx r (fun s' I' _=>h s' I') hf
theorem Inv.call' {s':Shared} {ch:List Addr} (I:Inv X pins σ H s) (ho:s'.os=s.os) (u:Un (frs X.stack) ch H H' s.heap s'.heap) (hok:HOk X.prog X.w H' s'.heap) (hg:AllBare s'.gens)
  (hch:∀b∈ch,(b∈X.ex∨X.s₀.heap.objs.size≤b)∧b≠X.env.locals∧(∀x c,X.env.cells.lookup x=some c→c≠b)∧∀p∈X.pn++pins,p.1≠b):Inv X pins σ H' s':=by
 obtain ⟨h',g',d',t',o'⟩:=s'
 have e:o'=s.os:=ho
 subst e
 exact I.call (g':=g') (t':=t') (d':=d') u hok hg hch
end
abbrev XK:=Value→Option Addr→Hp→Prop
abbrev St:=List (Option V)
abbrev VK:=V→Hp→Prop
abbrev TE:=St→Hp→VK→Prop
abbrev TT:=St→Hp→(Bool→Hp→Prop)→Prop
abbrev TA:=St→Hp→(List V→Hp→Prop)→Prop
structure Ends where
 nx:St→Hp→Prop
 rt:VK
 bk:St→Hp→Prop:=fun _ _=>False
 ct:St→Hp→Prop:=fun _ _=>False
abbrev TS:=Ends→St→Hp→Prop
def EP (X:Cx) (pins:List (Addr × Obj)) (σ:St) (Q:VK) (u:Value) (s':Shared):Prop:=∃v H',Inv X pins σ H' s'∧RelV v u∧Q v H'
def TP (X:Cx) (pins:List (Addr × Obj)) (σ:St) (Q:Bool→Hp→Prop) (b:Bool) (s':Shared):Prop:=∃H',Inv X pins σ H' s'∧Q b H'
def AP (X:Cx) (pins:List (Addr × Obj)) (σ:St) (Q:List V→Hp→Prop) (us:List Value) (s':Shared):Prop:=∃vs H',Inv X pins σ H' s'∧Vals vs us∧Q vs H'
def SP (X:Cx) (pins:List (Addr × Obj)) (D:Ends) (f:Flow) (s':Shared):Prop :=
 match f with
 | .next=>∃σ' H',Inv X pins σ' H' s'∧D.nx σ' H'
 | .brk=>∃σ' H',Inv X pins σ' H' s'∧D.bk σ' H'
 | .cont=>∃σ' H',Inv X pins σ' H' s'∧D.ct σ' H'
 | .ret u=>∃v σ' H',Inv X pins σ' H' s'∧RelV v u∧D.rt v H'
def PE (X:Cx) (e:Expr) (t:TE):Prop :=
 ∀(pins:List (Addr × Obj)) (s:Shared) (σ:St) (H:Hp) (Q:VK),Inv X pins σ H s→t σ H Q→wpAny (model X.prog X.w) X.A (eval e X.env) (EP X pins σ Q) X.xe s
def PT (X:Cx) (e:Expr) (t:TT):Prop :=
 ∀(pins:List (Addr × Obj)) (s:Shared) (σ:St) (H:Hp) (Q:Bool→Hp→Prop),Inv X pins σ H s→t σ H Q→wpAny (model X.prog X.w) X.A (isTrue e X.env (eval e X.env)) (TP X pins σ Q) X.xe s
def PW (X:Cx) (e:Expr) (t:TT):Prop :=
 ∀(whole:Sem Value) (pins:List (Addr × Obj)) (s:Shared) (σ:St) (H:Hp) (Q:Bool→Hp→Prop),Inv X pins σ H s→t σ H Q→wpAny (model X.prog X.w) X.A (isTrue e X.env whole) (TP X pins σ Q) X.xe s
theorem PW.pt {X:Cx} {e:Expr} {t:TT} (h:PW X e t):PT X e t:=h _
def PA (X:Cx) (es:List Expr) (t:TA):Prop :=
 ∀(pos:Pos) (pins:List (Addr × Obj)) (s:Shared) (σ:St) (H:Hp) (Q:List V→Hp→Prop),Inv X pins σ H s→t σ H Q→wpAny (model X.prog X.w) X.A (spliced (backTo pos (starEach es X.env))) (AP X pins σ Q) X.xe s
def PS (X:Cx) (st:Stmt) (t:TS):Prop :=
 ∀(pins:List (Addr × Obj)) (s:Shared) (σ:St) (H:Hp) (D:Ends),Inv X pins σ H s→t D σ H→wpAny (model X.prog X.w) X.A (exec st X.env) (SP X pins D) X.xe s
def PSs (X:Cx) (st:List Stmt) (t:TS):Prop :=
 ∀(pins:List (Addr × Obj)) (s:Shared) (σ:St) (H:Hp) (D:Ends),Inv X pins σ H s→t D σ H→wpAny (model X.prog X.w) X.A (execs st X.env) (SP X pins D) X.xe s
theorem thn {α:Type} {t:Sem α} {Q Q':α→Shared→Prop} {M:Model} {A:Around} {E:Value→Shared→Prop} {s:Shared} (h:wpAny M A t Q E s) (hQ:∀a s,Q a s→Q' a s):wpAny M A t Q' E s:=wpAny_mono h hQ fun _ _ x=>x
section
variable {X:Cx}
def tVar (i:Nat):TE:=fun σ H Q=>∃v,σ[i]?=some (some v)∧Q v H
def tC (v:V):TE:=fun _ H Q=>Q v H
theorem pe_var {i:Nat} {x:Str} {pos:Pos} (hN:X.N[i]?=some x) (hv:Vis X.env.scope x) (hd:(x == ("__debug__":Str))=false:=by decide) (hcd:(x == ("__classdict__":Str))=false:=by decide):PE X (.Name x pos) (tVar i):=by
 intro pins s σ H Q I h
 obtain ⟨v,e,h⟩:=h
 obtain ⟨m,hn,hl⟩:=I.loc
 obtain ⟨u,r,l⟩:=hl i x v hN e hv
 have fin:EP X pins σ Q u s:=⟨v,H,I,r,h⟩
 rcases l with ⟨hk,hm⟩|⟨hk,c,hc,hcell⟩
 ·exact wpAny_Name (wpAny_loadName_local I.ok.kind hk hn hm fin) hd
 ·rcases hk with hk|hk
  ·exact wpAny_Name (wpAny_loadName_cell I.ok.kind hk hc hcell fin) hd
  ·exact wpAny_Name (wpAny_loadName_free I.ok.kind hk hc hcell fin hcd) hd
theorem pe_int {i j pos}:PE X (.Constant (.int i) j pos) (tC (.int i)):=fun _ _ _ H _ I h=>wpAny_Constant_int ⟨.int i,H,I.tok _,⟨_,rfl⟩,h⟩
theorem pe_bl {b j pos}:PE X (.Constant (.bool b) j pos) (tC (.bl b)):=fun _ _ _ H _ I h=>Constant_bool ⟨.bl b,H,I,rfl,h⟩
theorem pe_str {x j pos}:PE X (.Constant (.str x) j pos) (tC (.str x)):=fun _ _ _ H _ I h=>Calls.Constant_str ⟨.str x,H,I.tok _,⟨_,rfl⟩,h⟩
def Gl (X:Cx) (x:Str):Prop:=X.env.kindOf x=some .globalImplicit
theorem k6 {E:Value→Shared→Prop} {pins:List (Addr × Obj)} {s:Shared} {σ:St} {H:Hp} {x:Str} {u:Value} {pos:Pos} {Q:Value→Shared→Prop} (I:Inv X pins σ H s) (hg:Gl X x) (hm:X.mg x=some u) (h:Q u s)
  (hd:(x == ("__debug__":Str))=false:=by decide):wpAny (model X.prog X.w) X.A (eval (.Name x pos) X.env) Q E s :=
 Calls.Name_function_global I.ok.kind hg (Calls.loadGlobal_global (by rw[I.ok.glob];exact I.mod.glob.keeps I.bk) hm h) hd
theorem fM {E:Value→Shared→Prop} {pins:List (Addr × Obj)} {s:Shared} {σ:St} {H:Hp} {x:Str} {u:Value} {pos:Pos} {Q:Value→Shared→Prop} (I:Inv X pins σ H s) (hg:Gl X x) (hm:X.mg x=none) (hv:bootBuiltins x=some u) (h:Q u s)
  (hn:x≠"__name__":=by decide) (hd:(x == ("__debug__":Str))=false:=by decide):wpAny (model X.prog X.w) X.A (eval (.Name x pos) X.env) Q E s:=by
 obtain ⟨mb,h1,h2⟩:=I.mod.blt
 exact Calls.Name_function_global I.ok.kind hg (Calls.loadGlobal_builtin (by rw[I.ok.glob];exact I.mod.glob.keeps I.bk) hm (by rw[I.ok.blt];exact h1.keeps I.bk) ((h2 x hn).trans hv) h) hd
theorem pe_bltn {x:Str} {v:V} {u:Value} {pos:Pos} (hg:Gl X x) (hm:X.mg x=none) (hv:bootBuiltins x=some u) (r:RelV v u) (hn:x≠"__name__":=by decide) (hd:(x == ("__debug__":Str))=false:=by decide):PE X (.Name x pos) (tC v) :=
 fun _ _ _ H _ I h=>fM I hg hm hv ⟨v,H,I,r,h⟩ hn hd
variable {a b:Expr} {ta tb:TE} {pos:Pos}
def tB (t:TE):TT:=fun σ H Q=>t σ H fun x H1=>∃c,x=.bl c∧Q c H1
theorem pt_val {e:Expr} {t:TE} (h:PE X e t) (he:∀whole,isTrue e X.env whole=(do let v ←whole;standAt e.pos;holding [v] (truthy v)):=by intro _;rfl):PT X e (tB t):=by
 intro pins s σ H Q I hw
 refine isTrue_plain (thn (h pins s σ H _ I hw) fun v s1 ⟨x,H1,I1,r1,q1⟩=>?_) (he _)
 obtain ⟨d,rfl,q⟩:=q1
 cases r1
 exact wpAny_truthy_bool ⟨H1,I1,q⟩
variable {tA tB':TT} {rest:List Expr}
def tOr (t u:TT):TT:=fun σ H Q=>t σ H fun c H1=>if c=true then Q true H1 else u σ H1 Q
def tNot (t:TT):TT:=fun σ H Q=>t σ H fun c H1=>Q (!c) H1
theorem pw_or1 (ha:PT X a tA):PW X (.BoolOp .Or [a] pos) tA:=by
 intro wh pins s σ H Q I h
 refine isTrue_or (thn (ha pins s σ H Q I h) fun c s1 e=>?_)
 cases c with
 | false=>exact isTrue_or_nil e
 | true=>exact e
theorem pw_or (ha:PT X a tA) (hb:PW X (.BoolOp .Or (b::rest) pos) tB'):PW X (.BoolOp .Or (a::b::rest) pos) (tOr tA tB'):=by
 intro wh pins s σ H Q I h
 refine isTrue_or (thn (ha pins s σ H _ I h) fun c s1 ⟨H1,I1,q1⟩=>?_)
 cases c with
 | true=>exact ⟨H1,I1,q1⟩
 | false=>exact hb wh pins s1 σ H1 Q I1 q1
theorem pt_not (ha:PT X a tA):PT X (.UnaryOp .Not a pos) (tNot tA):=by
 intro pins s σ H Q I h
 exact isTrue_not (ha pins s σ H (fun c H1=>Q (!c) H1) I h)
def tAndV (ta tb:TE):TE:=fun σ H Q=>ta σ H fun x H1=>∃c,x=.bl c∧if c=true then tb σ H1 Q else Q (.bl false) H1
def tNotV (ta:TE):TE:=fun σ H Q=>ta σ H fun x H1=>∃c,x=.bl c∧Q (.bl (!c)) H1
theorem pe_one {op} {t:TE} (h:PE X a t):PE X (.BoolOp op [a] pos) t:=fun pins s σ H Q I hw=>BoolOp_one (h pins s σ H Q I hw)
theorem pe_and (ha:PE X a ta) (hb:PE X (.BoolOp .And (b::rest) pos) tb):PE X (.BoolOp .And (a::b::rest) pos) (tAndV ta tb):=by
 intro pins s σ H Q I h
 refine BoolOp_and (thn (ha pins s σ H _ I h) fun v s1 ⟨x,H1,I1,r1,q1⟩=>?_)
 obtain ⟨c,rfl,q1⟩:=q1
 cases r1
 refine wpAny_truthy_bool ?_
 cases c with
 | true=>exact hb pins s1 σ H1 Q I1 q1
 | false=>exact ⟨.bl false,H1,I1,rfl,q1⟩
theorem pe_not (ha:PE X a ta):PE X (.UnaryOp .Not a pos) (tNotV ta):=by
 intro pins s σ H Q I h
 refine UnaryOp_ (thn (ha pins s σ H _ I h) fun v s1 ⟨x,H1,I1,r1,q1⟩=>?_)
 obtain ⟨c,rfl,q1⟩:=q1
 cases r1
 exact not_of (wpAny_truthy_bool ⟨.bl (!c),H1,I1,rfl,q1⟩)
end
def SqL (K:PySem.W.Frag) (H:Hp) (a:Addr) (xs:List V):Prop :=
 Rd H a (.lst xs) ∨
  ∃(o:Obj) (its:Array Value) (n:Nat),K.lookup a=some o∧o.cls=.type "list"∧o.dict=none∧o.data=.seq its n∧its.size≤sizeLine∧Vals xs its.toList
def SqT (K:PySem.W.Frag) (H:Hp) (a:Addr) (xs:List V):Prop :=
 Rd H a (.tup xs) ∨
  ∃(o:Obj) (its:Array Value) (n:Nat),K.lookup a=some o∧o.cls=.type "tuple"∧o.data=.seq its n∧its.size≤sizeLine∧Vals xs its.toList
def absV:Value→Option V
 | .none=>some .non
 | .bool b=>some (.bl b)
 | .int i _=>some (.int i)
 | .str x _=>some (.str x)
 | .bytes b _=>some (.byt b)
 | .float b _=>some (.flt b)
 | .ref a=>some (.ref a)
 | .type n=>some (.ty n)
 | _=>none
theorem RelV.abs {x:V} {u:Value} (r:RelV x u):absV u=some x:=by
 cases x with
 | non=>cases r;rfl
 | bl _=>cases r;rfl
 | int _=>obtain ⟨t,rfl⟩:=r;rfl
 | str _=>obtain ⟨t,rfl⟩:=r;rfl
 | byt _=>obtain ⟨t,rfl⟩:=r;rfl
 | flt _=>obtain ⟨t,rfl⟩:=r;rfl
 | ref _=>cases r;rfl
 | ty _=>cases r;rfl
theorem RelV.inj {x y:V} {u:Value} (r:RelV x u) (q:RelV y u):x=y:=Option.some.inj (r.abs.symm.trans q.abs)
theorem Vals.inj:∀{xs ys:List V} {us:List Value},Vals xs us→Vals ys us→xs=ys
 | _,_,_,.nil,.nil=>rfl
 | _,_,_,.cons r t,.cons r' t'=>by rw[r.inj r',Vals.inj t t']
section
variable {X:Cx} {pins:List (Addr × Obj)} {σ:St} {H:Hp} {s:Shared} {a:Addr} {xs ys:List V}
theorem SqL.of {K:PySem.W.Frag} (h:H a=some (.lst xs)):SqL K H a xs:=.inl (.inl h)
theorem SqT.of {K:PySem.W.Frag} (h:H a=some (.tup xs)):SqT K H a xs:=.inl (.inl h)
theorem Inv.list (I:Inv X pins σ H s) (h:SqL X.K H a xs):∃its:List Value,Vals xs its∧PlainL s.heap a its.toArray∧xs.length≤sizeLine:=by
 rcases h with h|⟨o,its,n,hk,hc,hd,hs,hz,r⟩
 ·obtain ⟨z,its,n,r,e⟩:=h.ok I.hok
  exact ⟨its,r,⟨_,n,e,rfl,rfl,rfl⟩,z⟩
 ·refine ⟨its.toList,r,⟨o,n,I.kIn a o hk,hc,hd,by simpa using hs⟩,?_⟩
  have e:=r.length
  simp only[Array.length_toList] at e
  omega
theorem Inv.tuple (I:Inv X pins σ H s) (h:SqT X.K H a xs):∃its:List Value,Vals xs its∧IsTup s.heap a its.toArray∧xs.length≤sizeLine:=by
 rcases h with h|⟨o,its,n,hk,hc,hs,hz,r⟩
 ·obtain ⟨z,its,r,p⟩:=h.ok I.hok
  exact ⟨its,r,p,z⟩
 ·refine ⟨its.toList,r,⟨o,I.kIn a o hk,hc,n,by simpa using hs⟩,?_⟩
  have e:=r.length
  simp only[Array.length_toList] at e
  omega
theorem Inv.list_inj (I:Inv X pins σ H s) (h:SqL X.K H a xs) (h':SqL X.K H a ys):xs=ys:=by
 obtain ⟨its,r,⟨o,n,e,_,_,d⟩,_⟩:=I.list h
 obtain ⟨its',r',⟨o',n',e',_,_,d'⟩,_⟩:=I.list h'
 rw[e] at e';cases e'
 rw[d] at d'
 injection d' with d1 _
 have:its=its':=by simpa using congrArg Array.toList d1
 subst this
 exact r.inj r'
theorem Inv.tuple_inj (I:Inv X pins σ H s) (h:SqT X.K H a xs) (h':SqT X.K H a ys):xs=ys:=by
 obtain ⟨its,r,⟨o,e,_,n,d⟩,_⟩:=I.tuple h
 obtain ⟨its',r',⟨o',e',_,n',d'⟩,_⟩:=I.tuple h'
 rw[e] at e';cases e'
 rw[d] at d'
 injection d' with d1 _
 have:its=its':=by simpa using congrArg Array.toList d1
 subst this
 exact r.inj r'
end
section
variable {X:Cx} {pins:List (Addr × Obj)} {σ:St} {H:Hp} {s:Shared} {E:Value→Shared→Prop}
end
section
variable {X:Cx} {st:Stmt} {rest:List Stmt} {t u:TS} {e:Expr} {te:TE} {pos:Pos}
def tNext:TS:=fun D σ H=>D.nx σ H
def tSeq (t u:TS):TS:=fun D σ H=>t { D with nx:=u D} σ H
theorem pss_nil:PSs X [] tNext:=fun _ _ σ H _ I h=>wpAny_execs_nil ⟨σ,H,I,h⟩
theorem nW (h1:PS X st t) (h2:PSs X rest u):PSs X (st::rest) (tSeq t u):=by
 intro pins s σ H D I h
 refine wpAny_execs_cons (thn (h1 pins s σ H { D with nx:=u D} I h) fun f s1 q=>?_)
 cases f with
 | next =>
  obtain ⟨σ',H',I',q⟩:=q
  exact h2 pins s1 σ' H' D I' q
 | ret v=>exact q
 | brk=>exact q
 | cont=>exact q
theorem pss_one (h1:PS X st t):PSs X [st] t:=by
 intro pins s σ H D I h
 refine wpAny_execs_cons (thn (h1 pins s σ H D I h) fun f s1 q=>?_)
 cases f with
 | next=>exact wpAny_execs_nil q
 | ret v=>exact q
 | brk=>exact q
 | cont=>exact q
theorem Inv.quiet {pins:List (Addr × Obj)} {σ:St} {H:Hp} {s:Shared} (I:Inv X pins σ H s):interactive X.env=false:=by simp[interactive,I.ok.kind]
def tDrop (te:TE):TS:=fun D σ H=>te σ H fun _ H1=>D.nx σ H1
theorem ps_expr (he:PE X e te) (hs:swapsWith e none pos.line X.env=pure false:=by rfl):PS X (.Expr e pos) (tDrop te):=by
 intro pins s σ H D I h
 exact wpAny_Expr_any (thn (he pins s σ H _ I h) fun v s1 ⟨x,H1,I1,r1,q1⟩=>⟨σ,H1,I1,q1⟩) I.quiet hs
def tRet (te:TE):TS:=fun D σ H=>te σ H D.rt
theorem ps_ret (he:PE X e te):PS X (.Return (some e) pos) (tRet te):=by
 intro pins s σ H D I h
 exact wpAny_Return_some (thn (he pins s σ H _ I h) fun v s1 ⟨x,H1,I1,r1,q1⟩=>⟨x,σ,H1,I1,r1,q1⟩)
def tIfS (c:TT) (t u:TS):TS:=fun D σ H=>c σ H fun b H1=>if b=true then t D σ H1 else u D σ H1
theorem ps_if {c:Expr} {a b:List Stmt} {tc:TT} (hc:PT X c tc) (ha:PSs X a t) (hb:PSs X b u):PS X (.If c a b pos) (tIfS tc t u):=by
 intro pins s σ H D I h
 refine wpAny_If (thn (hc pins s σ H _ I h) fun d s1 ⟨H1,I1,q1⟩=>?_)
 cases d with
 | true=>exact ha pins s1 σ H1 D I1 q1
 | false=>exact hb pins s1 σ H1 D I1 q1
end
abbrev TG:=V→St→Hp→(St→Hp→Prop)→Prop
abbrev TGs:=List V→St→Hp→(St→Hp→Prop)→Prop
def PG (X:Cx) (target:Expr) (t:TG):Prop :=
 ∀(pins:List (Addr × Obj)) (s:Shared) (σ:St) (H:Hp) (v:V) (u:Value) (Q:St→Hp→Prop),Inv X pins σ H s→RelV v u→t v σ H Q →
  wpAny (model X.prog X.w) X.A (assign target X.env u) (fun _ s'=>∃σ' H',Inv X pins σ' H' s'∧Q σ' H') X.xe s
def PGs (X:Cx) (ts:List Expr) (t:TGs):Prop :=
 ∀(pins:List (Addr × Obj)) (s:Shared) (σ:St) (H:Hp) (vs:List V) (us:List Value) (Q:St→Hp→Prop),Inv X pins σ H s→Vals vs us→t vs σ H Q →
  wpAny (model X.prog X.w) X.A (assignInOrder ((assignEach ts X.env).map (·.2)) us) (fun _ s'=>∃σ' H',Inv X pins σ' H' s'∧Q σ' H') X.xe s
abbrev TSet:=V→V→V→Hp→(Hp→Prop)→Prop
def PSet (X:Cx) (t:TSet):Prop :=
 ∀(pins:List (Addr × Obj)) (s:Shared) (σ:St) (H:Hp) (o i v:V) (ov iv u:Value) (Q:Hp→Prop),Inv X pins σ H s→RelV o ov→RelV i iv→RelV v u→t o i v H Q →
  wpAny (model X.prog X.w) X.A (setItem ov iv u) (fun _ s'=>∃H',Inv X pins σ H' s'∧Q H') X.xe s
section
variable {X:Cx} {pos:Pos}
def gName (i:Nat):TG:=fun v σ H Q=>Q (σ.set i (some v)) H
theorem pg_name {i:Nat} {x:Str} (hN:X.N.Nodup) (hi:X.N[i]?=some x) (hx:Loc X.env.scope x) (hf:X.fn x=true∨X.env.scope.names.lookup x=some .local:=by first | exact .inl rfl | exact .inr rfl | assumption):PG X (.Name x pos) (gName i):=by
 intro pins s σ H v u Q I r h
 exact wpAny_assign_Name (eU I hN hi hx r (fun s' I'=>⟨_,H,I',h⟩) hf)
def gNil:TGs:=fun vs σ H Q=>vs=[]∧Q σ H
def gCons (t:TG) (u:TGs):TGs:=fun vs σ H Q=>∃v r,vs=v::r∧t v σ H fun σ' H'=>u r σ' H' Q
theorem pgs_nil:PGs X [] gNil:=by
 intro pins s σ H vs us Q I r h
 obtain ⟨e,h⟩:=h
 subst e
 cases r
 exact assignInOrder_nil ⟨σ,H,I,h⟩
theorem nY {e:Expr} {es:List Expr} {t:TG} {u:TGs} (h1:PG X e t) (h2:PGs X es u)
  (hs:(assignEach (e::es) X.env).map (·.2)=assign e X.env::(assignEach es X.env).map (·.2):=by rfl):PGs X (e::es) (gCons t u):=by
 intro pins s σ H vs us Q I r h
 obtain ⟨v,vr,e1,h⟩:=h
 subst e1
 cases r with
 | cons r rr =>
  rw[hs]
  refine assignInOrder_cons (thn (h1 pins s σ H _ _ _ I r h) fun _ s1 ⟨σ1,H1,I1,q1⟩=>?_)
  exact h2 pins s1 σ1 H1 _ _ Q I1 rr q1
def gTup (K:PySem.W.Frag) (n:Nat) (t:TGs):TG:=fun v σ H Q=>∃a xs,v=.ref a∧SqT K H a xs∧xs.length=n∧t xs σ H Q
theorem pg_tup {es:List Expr} {k:Nat} {t:TGs} {n:Nat} (hc:X.calm=true) (h:PGs X es t)
  (hn:(assignEach es X.env).length=n:=by rfl) (hst:(assignEach es X.env).findIdx? (·.1)=none:=by rfl):PG X (.Tuple es k pos) (gTup X.K n t):=by
 intro pins s σ H v u Q I r hw
 obtain ⟨a,xs,e1,hq,hl,hw⟩:=hw
 subst e1
 cases r
 obtain ⟨its,rv,ht,hz⟩:=I.tuple hq
 refine assign_Tuple_tuple (I.ok.hd hc) ht (by simp[hn,←hl,rv.length]) hst fun h' hx=>?_
 have I1:Inv X pins σ H { s with heap:=h'}:=I.kept (t':=s.toks) fun b o e=>hx b o (Nat.ne_of_lt (Heap.lt_size e)) e
 exact h pins _ σ H xs _ Q I1 (by simpa using rv) hw
def gSub (to ti:TE) (t:TSet):TG:=fun v σ H Q=>to σ H fun o H1=>ti σ H1 fun i H2=>t o i v H2 fun H3=>Q σ H3
theorem pg_sub {o i:Expr} {to ti:TE} {t:TSet} (ho:PE X o to) (hi:PE X i ti) (hs:PSet X t)
  (ha:∀v,assign (.Subscript o i pos) X.env v=(do
   let ov ←holding [v] (eval o X.env)
   let iv ←holding [v,ov] (eval i X.env)
   standAt pos
   holding [v,ov,iv] (setItem ov iv v)
   release [v,ov,iv] []):=by intro _;rfl):PG X (.Subscript o i pos) (gSub to ti t):=by
 intro pins s σ H v u Q I r h
 rw[ha]
 refine wpAny_bind (wpAny_holding (thn (ho pins s σ H _ I h) fun ov s1 ⟨x,H1,I1,r1,q1⟩=>?_))
 refine wpAny_bind (wpAny_holding (thn (hi pins s1 σ H1 _ I1 q1) fun iv s2 ⟨y,H2,I2,r2,q2⟩=>?_))
 refine wpAny_bind (wpAny_standAt (wpAny_bind (wpAny_holding (thn (hs pins s2 σ H2 x y v ov iv u _ I2 r1 r2 r q2) fun _ s3 ⟨H3,I3,q3⟩=>?_))))
 exact wpAny_release ⟨σ,H3,I3,q3⟩
def tAsg (te:TE) (g:TG):TS:=fun D σ H=>te σ H fun x H1=>g x σ H1 D.nx
theorem ps_asg {tg e:Expr} {te:TE} {g:TG} (he:PE X e te) (hg:PG X tg g) (hs:swapsWithSole [tg] e pos.line X.env=pure false:=by rfl) (hw:swappedStores [tg] e X.env=pure none:=by rfl)
  (h1:(assignEach [tg] X.env).map (·.2)=[assign tg X.env]:=by rfl):PS X (.Assign [tg] e pos) (tAsg te g):=by
 intro pins s σ H D I h
 refine wpAny_Assign_stores (thn (he pins s σ H _ I h) fun v s1 ⟨x,H1,I1,r1,q1⟩=>?_) hs hw
 rw[h1]
 exact thn (hg pins s1 σ H1 x v _ I1 r1 q1) fun _ s2 q=>q
theorem ps_set {i:Nat} {x:Str} {e:Expr} {te:TE} {pos':Pos} (hN:X.N.Nodup) (hi:X.N[i]?=some x) (hx:Loc X.env.scope x) (he:PE X e te) (hs:swapsWith e (some (.Name x pos')) pos.line X.env=pure false:=by rfl) (hf:X.fn x=true∨X.env.scope.names.lookup x=some .local:=by first | exact .inl rfl | exact .inr rfl | assumption) :
  PS X (.Assign [.Name x pos'] e pos) (tAsg te (gName i)):=by
 intro pins s σ H D I h
 refine wpAny_Assign_Name (thn (he pins s σ H _ I h) fun v s1 ⟨y,H1,I1,r1,q1⟩=>?_) hs
 exact eU I1 hN hi hx r1 (fun s2 I2=>⟨_,H1,I2,q1⟩) hf
def tPar (i j:Nat) (ta:TA):TS:=fun D σ H=>ta σ H fun vs H1=>∃v w,vs=[v,w]∧D.nx ((σ.set i (some v)).set j (some w)) H1
theorem ps_par {i j:Nat} {x y:Str} {a b:Expr} {ta:TA} {px py pt:Pos} {kt k2 pt2} (hc:X.calm=true) (hN:X.N.Nodup) (hi:X.N[i]?=some x) (hj:X.N[j]?=some y) (hij:i≠j)
  (hx:X.env.scope.names.lookup x=some .local) (hy:X.env.scope.names.lookup y=some .local) (ha:PA X [a,b] ta)
  (hw:swappedStores [.Tuple [.Name x px,.Name y py] kt pt] (.Tuple [a,b] k2 pt2) X.env=pure (some [x,y]))
  (hs:swapsWithSole [.Tuple [.Name x px,.Name y py] kt pt] (.Tuple [a,b] k2 pt2) pos.line X.env=pure false:=by rfl) :
  PS X (.Assign [.Tuple [.Name x px,.Name y py] kt pt] (.Tuple [a,b] k2 pt2) pos) (tPar i j ta):=by
 intro pins s σ H D I h
 rw[exec_Assign_arm]
 refine wpAny_bind (wpAny_standAt ?_)
 rw[hs]
 refine wpAny_bind (wpAny_pure ?_)
 rw[if_neg (by decide)]
 refine wpAny_bind (Tuple_ (thn (ha _ pins s σ H _ I h) fun us s1 ⟨vs,H1,I1,r1,q1⟩=>?_))
 obtain ⟨v,w,e1,q1⟩:=q1
 subst e1
 obtain ⟨u1,u2,rfl,rv,rw'⟩:∃u1 u2,us=[u1,u2]∧RelV v u1∧RelV w u2:=by
  cases r1 with
  | cons p q =>
   cases q with
   | cons p' q' =>
    cases q'
    exact ⟨_,_,rfl,p,p'⟩
 refine wpAny_newObj_type ?_ (by show 2≤sizeLine;decide)
 have I2:Inv X pins σ H1 { s1 with heap:=s1.heap.push { cls:=.type "tuple",data:=.seq [u1,u2].toArray}}:=I1.kept (t':=s1.toks) fun b o e=>Heap.get?_push_of_some _ e
 rw[hw]
 refine wpAny_bind (wpAny_pure ?_)
 show wpAny (model X.prog X.w) X.A (do rule "assign.swapped-stores";let items ←unpackItems (.ref s1.heap.objs.size) 2 none;assignInOrder [fun v=>bindName X.env y v,fun v=>bindName X.env x v] items.reverse;pure Flow.next) _ _ _
 refine wpAny_bind (wpAny_rule (wpAny_bind (unpackItems_tuple (items:=#[u1,u2]) (I.ok.hd hc) (IsTup.new s1.heap _) fun h' hx'=>?_)))
 have I3:=I2.kept (h':=h') (t':=s1.toks) fun b o e=>hx' b o (Nat.ne_of_lt (Heap.lt_size e)) e
 show wpAny _ _ (assignInOrder [fun v=>bindName X.env y v,fun v=>bindName X.env x v] [u2,u1] >>= fun _=>pure Flow.next) _ _ _
 refine wpAny_bind (assignInOrder_cons (wpAny_bindName (eU I3 hN hj (.inl hy) rw' (fun s2 I4=>?_) (.inr hy))))
 refine assignInOrder_cons (wpAny_bindName (eU I4 hN hi (.inl hx) rv (fun s3 I5=>assignInOrder_nil (wpAny_pure ?_)) (.inr hx)))
 rw[List.set_comm _ _ (Ne.symm hij)] at I5
 exact ⟨_,H1,I5,q1⟩
end
section
variable {X:Cx} {pos:Pos}
def tWhile (c:TT) (tb:TS):TS:=fun D σ H=>∃W:Nat→St→Hp→Prop,(∃m,W m σ H)∧∀m σ H,W m σ H →
 c σ H fun b H1=>if b=true then ∃N:St→Hp→Prop,(∀σ' H',N σ' H'→∃m',m'<m∧W m' σ' H')∧tb { D with nx:=N,ct:=N,bk:=D.nx} σ H1 else D.nx σ H1
theorem oq {c:Expr} {body:List Stmt} {tc:TT} {tb:TS} (hp:PassesOwn (model X.prog X.w) X.A X.env X.xe) (hc:PT X c tc) (hb:PSs X body tb):PS X (.While c body [] pos) (tWhile tc tb):=by
 intro pins s σ H D I h
 obtain ⟨W,⟨m0,w0⟩,turn⟩:=h
 refine wpAny_While (codeAny_whileLoop (fun n s'=>∃σ' H',Inv X pins σ' H' s'∧W n σ' H') ?_ m0 ⟨σ,H,I,w0⟩)
 rintro n s1 ⟨σ1,H1,I1,w1⟩
 refine wpAny_passesOwn hp (thn (hc pins s1 σ1 H1 _ I1 (turn n σ1 H1 w1)) fun b s2 ⟨H2,I2,q2⟩=>?_)
 cases b with
 | true =>
  obtain ⟨N,hN,q2⟩:=q2
  rw[if_pos rfl]
  refine wpAny_passesOwn hp (thn (hb pins s2 σ1 H2 _ I2 q2) fun f s3 q3=>?_)
  cases f with
  | next =>
   obtain ⟨σ3,H3,I3,n3⟩:=q3
   obtain ⟨m',hm,w3⟩:=hN σ3 H3 n3
   exact ⟨m',hm,σ3,H3,I3,w3⟩
  | cont =>
   obtain ⟨σ3,H3,I3,n3⟩:=q3
   obtain ⟨m',hm,w3⟩:=hN σ3 H3 n3
   exact ⟨m',hm,σ3,H3,I3,w3⟩
  | brk=>exact q3
  | ret v=>exact q3
 | false =>
  rw[if_neg Bool.false_ne_true]
  exact wpAny_execs_nil ⟨σ1,H2,I2,q2⟩
end
structure It where
 go:Nat→Hp→Prop
 yld:Nat→Hp→V→Hp→Prop
 stop:Nat→Hp→Prop
def FpOk (X:Cx) (pins:List (Addr × Obj)) (H:Hp) (b:Addr):Prop :=
 H b=none∧b≠X.env.locals∧b∉X.fs∧(b∈X.ex∨X.s₀.heap.objs.size≤b)∧(∀x c,X.env.cells.lookup x=some c→c≠b)∧∀p∈X.pn++pins,p.1≠b
theorem Inv.fpOk {X:Cx} {pins:List (Addr × Obj)} {σ:St} {H H':Hp} {s:Shared} {b:Addr} (I:Inv X pins σ H s) (hb:s.heap.objs.size≤b) (hn:H' b=none):FpOk X pins H' b:=by
 refine ⟨hn,Nat.ne_of_gt (Nat.lt_of_lt_of_le I.lt hb),I.nofs hb,.inr (Nat.le_trans I.sz hb),fun x c e z=>?_,fun p hp z=>?_⟩
 ·obtain ⟨v,q⟩:=I.cell x c e
  exact absurd (Nat.lt_of_lt_of_le q.lt (by rw[z];exact hb)) (Nat.lt_irrefl _)
 ·exact absurd (Nat.lt_of_lt_of_le (Heap.lt_size (I.pin p hp).1) (by rw[z];exact hb)) (Nat.lt_irrefl _)
structure Turn (P:Program) (w:World) (K:PySem.W.Frag) (tg:Expr) (J:It) (fp:List Addr) (it:Addr) (tn:Nat→Heap→Prop):Prop where
 mem:it∈fp
 obj:∀i h,tn i h→∀b∈fp,∃o,h.get? b=some o∧∀v,o.data≠.cell v
 keep:∀i h h',tn i h→(∀b∈fp,∀o,h.get? b=some o→h'.get? b=some o)→tn i h'
 item:∀(X:Cx),X.prog=P→X.w=w→X.K=K→X.calm=true→∀(i:Nat) (pins:List (Addr × Obj)) (s:Shared) (σ:St) (H:Hp) (E:Value→Shared→Prop),Inv X pins σ H s→(∀b∈fp,FpOk X pins H b)→tn i s.heap→J.go i H →
  wpAny (model P w) X.A (pyNext (.ref it)) (fun r s1=>∃u,r=some u ∧
   wpAny (model P w) X.A (letOwnedTupleGo tg (.ref it) u) (fun _ s2=>∃x H',Inv X pins σ H' s2∧RelV x u∧J.yld i H x H'∧tn (i+1) s2.heap∧∀b∈fp,H' b=none) E s1) E s
 done:∀(X:Cx),X.prog=P→X.w=w→X.K=K→X.calm=true→∀(i:Nat) (pins:List (Addr × Obj)) (s:Shared) (σ:St) (H:Hp) (E:Value→Shared→Prop),Inv X pins σ H s→(∀b∈fp,FpOk X pins H b)→tn i s.heap→J.stop i H →
  wpAny (model P w) X.A (pyNext (.ref it)) (fun r s1=>r=none∧Inv X pins σ H s1) E s
 self:∀(A:Around) (i:Nat) (s:Shared) (Q:Value→Shared→Prop) (E:Value→Shared→Prop),tn i s.heap→Q (.ref it) s→wpAny (model P w) A (pyIter (.ref it)) Q E s
abbrev TI:=St→Hp→(It→Hp→Prop)→Prop
def PIE (X:Cx) (pins:List (Addr × Obj)) (σ:St) (tg:Expr) (R:It→Hp→Prop) (itv:Value) (s2:Shared):Prop :=
 ∃(it:Addr) (fp:List Addr) (tn:Nat→Heap→Prop) (J:It) (H':Hp),itv=.ref it∧Inv X pins σ H' s2∧Turn X.prog X.w X.K tg J fp it tn∧tn 0 s2.heap∧(∀b∈fp,FpOk X pins H' b)∧R J H'
def PI (X:Cx) (tg iter:Expr) (wi:TI):Prop :=
 ∀(pins:List (Addr × Obj)) (s:Shared) (σ:St) (H:Hp) (R:It→Hp→Prop),Inv X pins σ H s→wi σ H R →
  wpAny (model X.prog X.w) X.A (eval iter X.env) (fun v s1=>wpAny (model X.prog X.w) X.A (pyIter v) (PIE X pins σ tg R) X.xe s1) X.xe s
theorem ll {M:Model} {A:Around} {E:Value→Shared→Prop} {s:Shared} {tg:Expr} {it:Addr} {u:Value} {o:Obj} {n:String} {vs:Array Value} {Q:Unit→Shared→Prop} (ho:s.heap.get? it=some o) (hc:o.cls=.type n) (hd:o.data=.fields vs)
  (hn:["enumerate","zip","dict_itemiterator","dict_reverseitemiterator","odict_iterator","itertools.zip_longest","itertools.pairwise"].contains n=false) (hQ:Q () s):wpAny M A (letOwnedTupleGo tg (.ref it) u) Q E s:=by
 unfold letOwnedTupleGo
 cases tg <;> first
  | exact wpAny_pure hQ
  | (cases u <;> first
    | exact wpAny_pure hQ
    | (refine wpAny_bind (wpAny_load ho ?_)
       rw[hc,hd]
       show wpAny M A (if (["enumerate","zip","dict_itemiterator","dict_reverseitemiterator","odict_iterator","itertools.zip_longest","itertools.pairwise"].contains n && vs[0]? == some (rawInt _))=true then _ else _) Q E s
       rw[if_neg (by intro h;rw[hn,Bool.false_and] at h;cases h)]
       exact wpAny_pure hQ))
def Itl (K:PySem.W.Frag) (a:Addr):It :=
 ⟨fun i H=>∃xs x,SqL K H a xs∧xs[i]?=some x,fun i H x H'=>H'=H∧∀xs,SqL K H a xs→xs[i]?=some x,fun i H=>∃xs,SqL K H a xs∧xs.length≤i⟩
def Itt (K:PySem.W.Frag) (a:Addr):It :=
 ⟨fun i H=>∃xs x,SqT K H a xs∧xs[i]?=some x,fun i H x H'=>H'=H∧∀xs,SqT K H a xs→xs[i]?=some x,fun i H=>∃xs,SqT K H a xs∧xs.length≤i⟩
def Itr (lo:Int) (n:Nat):It:=⟨fun i _=>i<n,fun i H x H'=>H'=H∧x=.int (lo+i),fun i _=>n≤i⟩
theorem nc {P:Program} {w:World} {K:PySem.W.Frag} {tg:Expr} (a it:Addr):Turn P w K tg (Itl K a) [it] it (fun i h=>h.IsListIter it a i) where
 mem:=by simp
 obj:=fun i h st b hb=>by
  have e:b=it:=by simpa using hb
  subst e
  obtain ⟨o,e,c,d⟩:=st
  exact ⟨o,e,fun v z=>by rw[d] at z;cases z⟩
 keep:=fun i h h' st k=>st.at fun o e=>k it (by simp) o e
 item:=by
  intro X hP hw hK hc i pins s σ H E I hf st hg
  subst hP hw hK
  obtain ⟨xs,x,hq,hx⟩:=hg
  obtain ⟨its,rv,p,hz⟩:=I.list hq
  obtain ⟨u,hu,ru⟩:=rv.get hx
  obtain ⟨f0,f1,f2,f3,f4,f5⟩:=hf it (by simp)
  refine wpAny_pyNext_list_item st p.isList (x:=u) (by simpa using hu) fun h' st' sb=>?_
  have I1:Inv X pins σ H { s with heap:=h'}:=I.turned (t':=s.toks) (fun b o hb e=>(sb.2 b hb).trans e) f0 f1 f3 f4 f5
  obtain ⟨o,e,c,d⟩:=id st'
  exact ⟨u,rfl,ll (s:={ s with heap:=h'}) e c d (by decide) ⟨x,H,I1,ru,⟨rfl,fun ys hy=>by rw[I.list_inj hy hq];exact hx⟩,st',fun b hb=>(hf b hb).1⟩⟩
 done:=by
  intro X hP hw hK hc i pins s σ H E I hf st hg
  subst hP hw hK
  obtain ⟨xs,hq,hx⟩:=hg
  obtain ⟨its,rv,p,hz⟩:=I.list hq
  obtain ⟨f0,f1,f2,f3,f4,f5⟩:=hf it (by simp)
  have hl:=rv.length
  exact wpAny_pyNext_list_end (I.ok.hd hc) st p.isList (by simp;omega) fun h' eb=>⟨rfl,I.turned (t':=s.toks) (fun b o hb e=>eb b o hb e) f0 f1 f3 f4 f5⟩
 self:=fun _ _ _ _ _ st h=>wpAny_pyIter_listiter st h
theorem lf {P:Program} {w:World} {K:PySem.W.Frag} {tg:Expr} (a it:Addr):Turn P w K tg (Itt K a) [it] it (fun i h=>h.IsTupleIter it a i) where
 mem:=by simp
 obj:=fun i h st b hb=>by
  have e:b=it:=by simpa using hb
  subst e
  obtain ⟨o,e,c,d⟩:=st
  exact ⟨o,e,fun v z=>by rw[d] at z;cases z⟩
 keep:=fun i h h' st k=>st.at fun o e=>k it (by simp) o e
 item:=by
  intro X hP hw hK hc i pins s σ H E I hf st hg
  subst hP hw hK
  obtain ⟨xs,x,hq,hx⟩:=hg
  obtain ⟨its,rv,p,hz⟩:=I.tuple hq
  obtain ⟨u,hu,ru⟩:=rv.get hx
  obtain ⟨f0,f1,f2,f3,f4,f5⟩:=hf it (by simp)
  refine wpAny_pyNext_tuple_item st (show s.heap.IsTuple a its.toArray from p) (x:=u) (by simpa using hu) fun h' st' sb=>?_
  have I1:Inv X pins σ H { s with heap:=h'}:=I.turned (t':=s.toks) (fun b o hb e=>(sb.2 b hb).trans e) f0 f1 f3 f4 f5
  obtain ⟨o,e,c,d⟩:=id st'
  exact ⟨u,rfl,ll (s:={ s with heap:=h'}) e c d (by decide) ⟨x,H,I1,ru,⟨rfl,fun ys hy=>by rw[I.tuple_inj hy hq];exact hx⟩,st',fun b hb=>(hf b hb).1⟩⟩
 done:=by
  intro X hP hw hK hc i pins s σ H E I hf st hg
  subst hP hw hK
  obtain ⟨xs,hq,hx⟩:=hg
  obtain ⟨its,rv,p,hz⟩:=I.tuple hq
  obtain ⟨f0,f1,f2,f3,f4,f5⟩:=hf it (by simp)
  have hl:=rv.length
  exact wpAny_pyNext_tuple_end (I.ok.hd hc) st (show s.heap.IsTuple a its.toArray from p) (by simp;omega) fun h' eb=>⟨rfl,I.turned (t':=s.toks) (fun b o hb e=>eb b o hb e) f0 f1 f3 f4 f5⟩
 self:=fun _ _ _ _ _ st h=>wpAny_pyIter_tupleiter st h
theorem lc {P:Program} {w:World} {K:PySem.W.Frag} {tg:Expr} (it:Addr) (lo:Int) (n:Nat):Turn P w K tg (Itr lo n) [it] it (fun i h=>IsRangeIter h it (lo+(i:Nat) * 1) ((n:Int) - (i:Nat)) 1) where
 mem:=by simp
 obj:=fun i h st b hb=>by
  have e:b=it:=by simpa using hb
  subst e
  exact ⟨_,st,fun v z=>by
   have z':Data.fields _=Data.cell v:=z
   cases z'⟩
 keep:=fun i h h' st k=>k it (by simp) _ st
 item:=by
  intro X hP hw hK hc i pins s σ H E I hf st hg
  subst hP hw hK
  obtain ⟨f0,f1,f2,f3,f4,f5⟩:=hf it (by simp)
  have W:=Walks.range (prog:=X.prog) (w:=X.w) (I.ok.hd hc) it lo 1 n
  refine W.item i s _ _ hg st fun v h' tk hv st' kk=>?_
  obtain ⟨t,rfl⟩:=hv
  have I1:Inv X pins σ H { s with heap:=h',toks:=tk}:=I.turned (fun b o hb e=>kk b o (by simpa using hb) e) f0 f1 f3 f4 f5
  refine ⟨_,rfl,ll (s:={ s with heap:=h',toks:=tk}) (n:="range_iterator") st' rfl rfl (by decide) ⟨.int (lo+i),H,I1,⟨t,?_⟩,⟨rfl,rfl⟩,st',fun b hb=>(hf b hb).1⟩⟩
  rw[Int.mul_one]
 done:=by
  intro X hP hw hK hc i pins s σ H E I hf st hg
  subst hP hw hK
  obtain ⟨f0,f1,f2,f3,f4,f5⟩:=hf it (by simp)
  exact wpAny_pyNext_range_end (I.ok.hd hc) st (by have:n≤i:=hg;omega) fun h' eb=>⟨rfl,I.turned (t':=s.toks) (fun b o hb e=>eb b o hb e) f0 f1 f3 f4 f5⟩
 self:=fun _ _ _ _ _ st h=>wpAny_pyIter_rangeiter st h
section
variable {X:Cx} {tg:Expr}
def iList (K:PySem.W.Frag) (tl:TE):TI:=fun σ H R=>tl σ H fun x H1=>∃a,x=.ref a∧(∃xs,SqL K H1 a xs)∧R (Itl K a) H1
def iTup (K:PySem.W.Frag) (tl:TE):TI:=fun σ H R=>tl σ H fun x H1=>∃a,x=.ref a∧(∃xs,SqT K H1 a xs)∧R (Itt K a) H1
theorem pi_list {l:Expr} {tl:TE} (hl:PE X l tl):PI X tg l (iList X.K tl):=by
 intro pins s σ H R I h
 refine thn (hl pins s σ H _ I h) fun v s1 ⟨x,H1,I1,r1,q1⟩=>?_
 obtain ⟨a,e,⟨xs,hq⟩,q⟩:=q1
 subst e
 cases r1
 obtain ⟨its,rv,p,hz⟩:=I1.list hq
 refine wpAny_pyIter_list p.isList ?_
 refine ⟨s1.heap.objs.size,[s1.heap.objs.size],_,_,H1,rfl,I1.kept (t':=s1.toks) fun b o e=>Heap.get?_push_of_some _ e,nc a _,⟨_,Heap.get?_push_size _ rfl,rfl,rfl⟩,fun b hb=>?_,q⟩
 have e:b=s1.heap.objs.size:=by simpa using hb
 subst e
 exact I1.fpOk (Nat.le_refl _) (I1.hok.fresh (Nat.le_refl _))
theorem pi_tup {l:Expr} {tl:TE} (hl:PE X l tl):PI X tg l (iTup X.K tl):=by
 intro pins s σ H R I h
 refine thn (hl pins s σ H _ I h) fun v s1 ⟨x,H1,I1,r1,q1⟩=>?_
 obtain ⟨a,e,⟨xs,hq⟩,q⟩:=q1
 subst e
 cases r1
 obtain ⟨its,rv,p,hz⟩:=I1.tuple hq
 refine wpAny_pyIter_tuple (show s1.heap.IsTuple a its.toArray from p) ?_
 refine ⟨s1.heap.objs.size,[s1.heap.objs.size],_,_,H1,rfl,I1.kept (t':=s1.toks) fun b o e=>Heap.get?_push_of_some _ e,lf a _,⟨_,Heap.get?_push_size _ rfl,rfl,rfl⟩,fun b hb=>?_,q⟩
 have e:b=s1.heap.objs.size:=by simpa using hb
 subst e
 exact I1.fpOk (Nat.le_refl _) (I1.hok.fresh (Nat.le_refl _))
theorem nV {pins:List (Addr × Obj)} {σ:St} {H:Hp} {s:Shared} {R:It→Hp→Prop} {E:Value→Shared→Prop} {lo hi:Int} {t u v:Tok} {tk:Nat} (I:Inv X pins σ H s) (h1:-(2 ^ 62)≤lo) (h2:lo<2 ^ 62) (h3:-(2 ^ 62)≤hi) (h4:hi<2 ^ 62)
  (q:R (Itr lo (hi - lo).toNat) H):wpAny (model X.prog X.w) X.A (pyIter (.ref s.heap.objs.size)) (PIE X pins σ tg R) E { s with heap:=s.heap.push { cls:=.type "range",data:=.fields #[.int lo t,.int hi u,.int 1 v]},toks:=tk}:=by
 refine wpAny_pyIter_range (IsRange.new ..) (small_one h1 h2 h3 h4) ?_
 have I1:Inv X pins σ H { s with heap:=s.heap.push { cls:=.type "range",data:=.fields #[.int lo t,.int hi u,.int 1 v]},toks:=tk}:=I.kept fun b o e=>Heap.get?_push_of_some _ e
 refine ⟨(s.heap.push { cls:=.type "range",data:=.fields #[.int lo t,.int hi u,.int 1 v]}).objs.size,[(s.heap.push { cls:=.type "range",data:=.fields #[.int lo t,.int hi u,.int 1 v]}).objs.size],_,_,H,rfl,
  I1.kept (t':=tk) fun b o e=>Heap.get?_push_of_some _ e,lc _ lo (hi - lo).toNat,?_,fun b hb=>?_,q⟩
 ·have e1:lo+((0:Nat):Int) * 1=lo:=by simp
  have e2:(((hi - lo).toNat:Nat):Int) - ((0:Nat):Int)=Builtin.Range.rangeSize lo hi 1:=by rw[rangeSize_one];split <;> omega
  show IsRangeIter _ _ (lo+((0:Nat):Int) * 1) ((((hi - lo).toNat:Nat):Int) - ((0:Nat):Int)) 1
  rw[e1,e2]
  exact Heap.get?_push_size _ rfl
 ·have e:b=(s.heap.push { cls:=.type "range",data:=.fields #[.int lo t,.int hi u,.int 1 v]}).objs.size:=by simpa using hb
  subst e
  exact I1.fpOk (Nat.le_refl _) (I1.hok.fresh (Nat.le_refl _))
def iRng1 (ta:TA):TI:=fun σ H R=>ta σ H fun vs H1=>∃j:Int,vs=[.int j] ∧ -(2 ^ 62)≤j∧j<2 ^ 62∧R (Itr 0 j.toNat) H1
theorem mq {a:Expr} {ta:TA} {p pos:Pos} (hg:Gl X "range") (hm:X.mg "range"=none) (ha:PA X [a] ta) (hs:starEach [a] X.env=[(false,eval a X.env)]:=by rfl):PI X tg (.Call (.Name "range" p) [a] [] pos) (iRng1 ta):=by
 intro pins s σ H R I h
 refine Call_ (fM I hg hm boot_range (PyProof.Rows.callWith_type1 (thn (ha pos pins s σ H _ I h) fun us s1 ⟨vs,H1,I1,r1,q1⟩=>?_) hs rfl))
 obtain ⟨j,e,q1,q2,q⟩:=q1
 subst e
 cases r1 with
 | cons r rr =>
  cases rr
  obtain ⟨t,rfl⟩:=r
  exact call_range_1 (nV I1 (by omega) (by omega) q1 q2 (by simpa using q))
def tFor (wi:TI) (g:TG) (tb:TS):TS:=fun D σ H=>wi σ H fun J H1=>∃W:Nat→Nat→St→Hp→Prop,(∃m,W 0 m σ H1)∧∀i m σ H,W i m σ H →
 (J.stop i H∧D.nx σ H)∨(J.go i H∧∃N:St→Hp→Prop,(∀σ' H',N σ' H'→∃m',m'<m∧W (i+1) m' σ' H')∧∀x H',J.yld i H x H'→g x σ H' fun σ2 H2=>tb { D with nx:=N,ct:=N,bk:=D.nx} σ2 H2)
def fK (fp:List Addr) (h:Heap):List (Addr × Obj):=fp.filterMap fun b=>(h.get? b).map fun o=>(b,o)
theorem dB {fp:List Addr} {h:Heap} {b:Addr} {o:Obj} (hb:b∈fp) (e:h.get? b=some o):(b,o)∈fK fp h:=List.mem_filterMap.mpr ⟨b,hb,by rw[e];rfl⟩
theorem mh {fp:List Addr} {h:Heap} {p:Addr × Obj} (hp:p∈fK fp h):p.1∈fp∧h.get? p.1=some p.2:=by
 obtain ⟨b,hb,e⟩:=List.mem_filterMap.mp hp
 cases q:h.get? b with
 | none=>rw[q] at e;cases e
 | some o =>
  rw[q] at e
  have e':(b,o)=p:=Option.some.inj e
  subst e'
  exact ⟨hb,q⟩
theorem Inv.pinned {pins:List (Addr × Obj)} {σ:St} {H:Hp} {s:Shared} {fp:List Addr} (I:Inv X pins σ H s) (hf:∀b∈fp,FpOk X pins H b) (ho:∀b∈fp,∃o,s.heap.get? b=some o∧∀v,o.data≠.cell v):Inv X (pins++fK fp s.heap) σ H s :=
 I.pins_of fun p hp=>(List.mem_append.mp hp).elim (fun z=>I.pin p (List.mem_append_right _ z)) fun z=>by
  obtain ⟨hb,e⟩:=mh z
  obtain ⟨f0,f1,f2,_⟩:=hf p.1 hb
  obtain ⟨o,e',d⟩:=ho p.1 hb
  rw[e] at e';cases e'
  exact ⟨e,f0,f1,f2,d⟩
theorem Inv.unpinned {pins pl:List (Addr × Obj)} {σ:St} {H:Hp} {s:Shared} (I:Inv X (pins++pl) σ H s):Inv X pins σ H s:=I.pins_of fun p hp=>I.pin p (List.mem_append_right _ (List.mem_append_left _ hp))
theorem ps_for {iter:Expr} {body:List Stmt} {wi:TI} {g:TG} {tb:TS} {pos:Pos} (hp:PassesOwn (model X.prog X.w) X.A X.env X.xe) (hc:X.calm=true) (hi:PI X tg iter wi) (hg:PG X tg g) (hb:PSs X body tb)
  (hs:∀x,foldedSetIterable iter X.env x=pure x:=by intro _;rfl):PS X (.For tg iter body [] pos) (tFor wi g tb):=by
 intro pins s σ H D I h
 refine wpAny_For (thn (hi pins s σ H _ I h) fun v s1 h1=>thn h1 fun itv s2 h2=>?_) hs
 obtain ⟨it,fp,tn,J,H2,e,I2,T,st2,f2,W,⟨m0,w0⟩,turn⟩:=h2
 subst e
 have stat:∀{H':Hp},(∀b∈fp,H' b=none)→∀b∈fp,FpOk X pins H' b:=fun hn b hb=>⟨hn b hb,(f2 b hb).2⟩
 refine codeAny_forLoop_any (fun n s'=>∃i σ' H',Inv X pins σ' H' s'∧tn i s'.heap∧(∀b∈fp,H' b=none)∧W i n σ' H') ?_ m0 ⟨0,σ,H2,I2,st2,fun b hb=>(f2 b hb).1,w0⟩
 rintro n s3 ⟨i,σ3,H3,I3,st3,fr3,w3⟩
 rcases turn i n σ3 H3 w3 with ⟨stop,qn⟩|⟨go,N,hN,step⟩
 ·refine wpAny_passesOwn hp (thn (T.done X rfl rfl rfl hc i pins s3 σ3 H3 X.xe I3 (stat fr3) st3 stop) fun r s4 ⟨hr,I4⟩=>?_)
  subst hr
  exact wpAny_execs_nil ⟨σ3,H3,I4,qn⟩
 ·refine wpAny_passesOwn hp (thn (T.item X rfl rfl rfl hc i pins s3 σ3 H3 X.xe I3 (stat fr3) st3 go) fun r s4 ⟨u,hr,h4⟩=>?_)
  subst hr
  refine wpAny_passesOwn hp (thn h4 fun _ s5 ⟨x,H5,I5,r5,y5,st5,fr5⟩=>?_)
  have I5':=I5.pinned (stat fr5) (T.obj _ _ st5)
  refine wpAny_passesOwn hp (thn (hg _ s5 σ3 H5 x u _ I5' r5 (step x H5 y5)) fun _ s6 ⟨σ6,H6,I6,q6⟩=>?_)
  refine wpAny_passesOwn hp (thn (hb _ s6 σ6 H6 _ I6 q6) fun f s7 q7=>?_)
  have again:∀{σ7:St} {H7:Hp},Inv X (pins++fK fp s5.heap) σ7 H7 s7→N σ7 H7→∃m,m<n∧∃i σ' H',Inv X pins σ' H' s7∧tn i s7.heap∧(∀b∈fp,H' b=none)∧W i m σ' H':=fun {σ7 H7} I7 n7=>by
   obtain ⟨m',hm,w7⟩:=hN σ7 H7 n7
   refine ⟨m',hm,i+1,σ7,H7,I7.unpinned,T.keep _ _ _ st5 fun b hb o e=>(I7.pin (b,o) (List.mem_append_right _ (List.mem_append_right _ (dB hb e)))).1,fun b hb=>?_,w7⟩
   obtain ⟨o,e,d⟩:=T.obj _ _ st5 b hb
   exact (I7.pin (b,o) (List.mem_append_right _ (List.mem_append_right _ (dB hb e)))).2.1
  cases f with
  | next=>obtain ⟨σ7,H7,I7,n7⟩:=q7;exact again I7 n7
  | cont=>obtain ⟨σ7,H7,I7,n7⟩:=q7;exact again I7 n7
  | brk=>obtain ⟨σ7,H7,I7,q7⟩:=q7;exact ⟨σ7,H7,I7.unpinned,q7⟩
  | ret v=>obtain ⟨x7,σ7,H7,I7,r7,q7⟩:=q7;exact ⟨x7,σ7,H7,I7.unpinned,r7,q7⟩
end
abbrev R2:=V→V→Hp→VK→Prop
def OpR (X:Cx) (f:Value→Value→Sem Value) (r:R2):Prop :=
 ∀(pins:List (Addr × Obj)) (s:Shared) (σ:St) (H:Hp) (x y:V) (v u:Value) (Q:VK),Inv X pins σ H s→RelV x v→RelV y u→r x y H Q →
  wpAny (model X.prog X.w) X.A (f v u) (EP X pins σ Q) X.xe s
def UnR (X:Cx) (f:Value→Sem Value) (r:V→Hp→VK→Prop):Prop :=
 ∀(pins:List (Addr × Obj)) (s:Shared) (σ:St) (H:Hp) (x:V) (v:Value) (Q:VK),Inv X pins σ H s→RelV x v→r x H Q →
  wpAny (model X.prog X.w) X.A (f v) (EP X pins σ Q) X.xe s
def cK (X:Cx) (f:Value) (r:List V→Hp→VK→Prop):Prop :=
 ∀(pins:List (Addr × Obj)) (s:Shared) (σ:St) (H:Hp) (xs:List V) (us:List Value) (Q:VK),Inv X pins σ H s→Vals xs us→r xs H Q →
  wpAny (model X.prog X.w) X.A (call f us) (EP X pins σ Q) X.xe s
def tOp (r:R2) (ta tb:TE):TE:=fun σ H Q=>ta σ H fun x H1=>tb σ H1 fun y H2=>r x y H2 Q
def tUn (r:V→Hp→VK→Prop) (ta:TE):TE:=fun σ H Q=>ta σ H fun x H1=>r x H1 Q
def rI (C:Int→Int→Prop) (g:Int→Int→V):R2:=fun x y H Q=>∃i j,x=.int i∧y=.int j∧C i j∧Q (g i j) H
def rI0 (g:Int→Int→V):R2:=fun x y H Q=>∃i j,x=.int i∧y=.int j∧Q (g i j) H
def rU (g:Int→V):V→Hp→VK→Prop:=fun x H Q=>∃i,x=.int i∧Q (g i) H
section
variable {X:Cx} {a b c:Expr} {ta tb tc:TE} {pos:Pos}
theorem binT (ha:PE X a ta) (hb:PE X b tb) {pins:List (Addr × Obj)} {s:Shared} {σ:St} {H:Hp} {R:V→V→Hp→Prop} (I:Inv X pins σ H s)
  (h:ta σ H fun x H1=>tb σ H1 fun y H2=>R x y H2) {Q:Value→Shared→Prop} {f:Value→Value→Sem Value}
  (hf:∀v u s2 x y H2,Inv X pins σ H2 s2→RelV x v→RelV y u→R x y H2→wpAny (model X.prog X.w) X.A (f v u) Q X.xe s2) :
  wpAny (model X.prog X.w) X.A (eval a X.env) (fun v s₁=>wpAny (model X.prog X.w) X.A (eval b X.env) (fun u s₂=>wpAny (model X.prog X.w) X.A (f v u) Q X.xe s₂) X.xe s₁) X.xe s:=by
 refine thn (ha pins s σ H _ I h) fun v s1 ⟨x,H1,I1,r1,q1⟩=>?_
 refine thn (hb pins s1 σ H1 _ I1 q1) fun u s2 ⟨y,H2,I2,r2,q2⟩=>?_
 exact hf v u s2 x y H2 I2 r1 r2 q2
theorem pe_op {op:Operator} {r:R2} (ho:OpR X (binaryOp op) r) (ha:PE X a ta) (hb:PE X b tb):PE X (.BinOp a op b pos) (tOp r ta tb):=by
 intro pins s σ H Q I h
 exact wpAny_BinOp (binT ha hb I h fun v u s2 x y H2 I2 rx ry q=>ho pins s2 σ H2 x y v u Q I2 rx ry q)
theorem pe_un {op:UnaryOp} {r:V→Hp→VK→Prop} (ho:UnR X (unaryOp op) r) (ha:PE X a ta):PE X (.UnaryOp op a pos) (tUn r ta):=by
 intro pins s σ H Q I h
 exact UnaryOp_ (thn (ha pins s σ H _ I h) fun v s1 ⟨x,H1,I1,r1,q1⟩=>ho pins s1 σ H1 x v Q I1 r1 q1)
theorem opI {f:Value→Value→Sem Value} {C:Int→Int→Prop} {g:Int→Int→Int}
  (rule:∀(i j:Int) (t u:Tok) (s:Shared) (Q:Value→Shared→Prop) (E:Value→Shared→Prop),C i j→Q (.int (g i j) s.toks) { s with toks:=s.toks+1}→wpAny (model X.prog X.w) X.A (f (.int i t) (.int j u)) Q E s) :
  OpR X f (rI C fun i j=>.int (g i j)):=by
 intro pins s σ H x y v u Q I rx ry h
 obtain ⟨i,j,rfl,rfl,hc,q⟩:=h
 obtain ⟨t,rfl⟩:=rx
 obtain ⟨t',rfl⟩:=ry
 exact rule i j t t' s _ _ hc ⟨.int (g i j),H,I.tok _,⟨_,rfl⟩,q⟩
theorem opI0 {f:Value→Value→Sem Value} {g:Int→Int→Int}
  (rule:∀(i j:Int) (t u:Tok) (s:Shared) (Q:Value→Shared→Prop) (E:Value→Shared→Prop),Q (.int (g i j) s.toks) { s with toks:=s.toks+1}→wpAny (model X.prog X.w) X.A (f (.int i t) (.int j u)) Q E s) :
  OpR X f (rI0 fun i j=>.int (g i j)):=by
 intro pins s σ H x y v u Q I rx ry h
 obtain ⟨i,j,rfl,rfl,q⟩:=h
 obtain ⟨t,rfl⟩:=rx
 obtain ⟨t',rfl⟩:=ry
 exact rule i j t t' s _ _ ⟨.int (g i j),H,I.tok _,⟨_,rfl⟩,q⟩
theorem opB0 {f:Value→Value→Sem Value} {g:Int→Int→Bool}
  (rule:∀(i j:Int) (t u:Tok) (s:Shared) (Q:Value→Shared→Prop) (E:Value→Shared→Prop),Q (.bool (g i j)) s→wpAny (model X.prog X.w) X.A (f (.int i t) (.int j u)) Q E s) :
  OpR X f (rI0 fun i j=>.bl (g i j)):=by
 intro pins s σ H x y v u Q I rx ry h
 obtain ⟨i,j,rfl,rfl,q⟩:=h
 obtain ⟨t,rfl⟩:=rx
 obtain ⟨t',rfl⟩:=ry
 exact rule i j t t' s _ _ ⟨.bl (g i j),H,I,rfl,q⟩
def CPow (i j:Int):Prop:=0≤j∧j≤1000000∧i.natAbs<2 ^ 64
theorem op_add:OpR X (binaryOp .Add) (rI0 fun i j=>.int (i+j)):=opI0 fun _ _ _ _ _ _ _ q=>add_int q
theorem op_sub:OpR X (binaryOp .Sub) (rI0 fun i j=>.int (i - j)):=opI0 fun _ _ _ _ _ _ _ q=>sub_int q
theorem op_pow:OpR X (binaryOp .Pow) (rI CPow fun i j=>.int (i ^ j.toNat)):=opI fun _ _ _ _ _ _ _ hc q=>pow_int_small hc.1 hc.2.1 hc.2.2 q
theorem unI {f:Value→Sem Value} {g:Int→Int}
  (rule:∀(i:Int) (t:Tok) (s:Shared) (Q:Value→Shared→Prop) (E:Value→Shared→Prop),Q (.int (g i) s.toks) { s with toks:=s.toks+1}→wpAny (model X.prog X.w) X.A (f (.int i t)) Q E s) :
  UnR X f (rU fun i=>.int (g i)):=by
 intro pins s σ H x v Q I rx h
 obtain ⟨i,rfl,q⟩:=h
 obtain ⟨t,rfl⟩:=rx
 exact rule i t s _ _ ⟨.int (g i),H,I.tok _,⟨_,rfl⟩,q⟩
theorem un_neg:UnR X (unaryOp .USub) (rU fun i=>.int (-i)):=unI fun _ _ _ _ _ q=>neg_int q
end
section
variable {X:Cx} {a b c:Expr} {ta tb tc:TE} {pos:Pos}
theorem op_lt:OpR X (compareOp .Lt) (rI0 fun i j=>.bl (decide (i<j))):=opB0 fun _ _ _ _ _ _ _ q=>lt_int q
theorem op_gt:OpR X (compareOp .Gt) (rI0 fun i j=>.bl (decide (j<i))):=opB0 fun _ _ _ _ _ _ _ q=>gt_int q
theorem op_ge:OpR X (compareOp .GtE) (rI0 fun i j=>.bl (decide (j≤i))):=opB0 fun _ _ _ _ _ _ _ q=>ge_int q
theorem nomark (b:Expr) {op:CmpOp} (h:op≠.In:=by decide) (h2:op≠.NotIn:=by decide):behindInMarks op b=false:=by
 have e1:(op == CmpOp.In)=false:=by cases op <;> first | rfl | exact absurd rfl h
 have e2:(op == CmpOp.NotIn)=false:=by cases op <;> first | rfl | exact absurd rfl h2
 cases b <;> simp[behindInMarks,e1,e2]
theorem pe_cmpR {op:CmpOp} {r:R2} (ho:OpR X (compareOp op) r) (ha:PE X a ta) (hb:PE X b tb) (hm:behindInMarks op b=false):PE X (.Compare a [op] [b] pos) (tOp r ta tb):=by
 intro pins s σ H Q I h
 exact wpAny_Compare1 (binT ha hb I h fun v u s2 x y H2 I2 rx ry q=>ho pins s2 σ H2 x y v u Q I2 rx ry q) hm
def tTest (t:TE):TT:=fun σ H Q=>t σ H fun x H'=>∃k,x=.bl k∧Q k H'
theorem pt_cmpR {op:CmpOp} {r:R2} (ho:OpR X (compareOp op) r) (ha:PE X a ta) (hb:PE X b tb) (hm:behindInMarks op b=false):PT X (.Compare a [op] [b] pos) (tTest (tOp r ta tb)):=by
 intro pins s σ H Q I h
 refine wpAny_isTrue_Compare1 (thn (ha pins s σ H _ I h) fun v s1 ⟨x,H1,I1,r1,q1⟩=>thn (hb pins s1 σ H1 _ I1 q1) fun u s2 ⟨y,H2,I2,r2,q2⟩ =>
  thn (ho pins s2 σ H2 x y v u _ I2 r1 r2 q2) fun c s3 ⟨z,H3,I3,r3,k,e,q3⟩=>?_) hm
 subst e
 cases r3
 exact wpAny_truthy_bool ⟨H3,I3,q3⟩
theorem fw:(sizeLine:Nat)<2 ^ 63:=by rw[sizeLine_eq];decide
theorem lB:OpR X (binaryOp .Add) (fun x y H Q=>∃i j,x=.str i∧y=.str j∧i.length+j.length≤sizeLine∧Q (.str (i++j)) H):=by
 intro pins s σ H x y v u Q I rx ry h
 obtain ⟨i,j,rfl,rfl,hz,q⟩:=h
 obtain ⟨t,rfl⟩:=rx
 obtain ⟨t',rfl⟩:=ry
 exact add_str (fun t' tk=>⟨.str (i++j),H,I.tok _,⟨_,rfl⟩,q⟩) hz
theorem fZ {x:V} {us:List Value} (r:Vals [x] us):∃u,us=[u]∧RelV x u:=by
 cases r with
 | cons r1 r2=>cases r2;exact ⟨_,rfl,r1⟩
theorem vals2 {x y:V} {us:List Value} (r:Vals [x,y] us):∃u w',us=[u,w']∧RelV x u∧RelV y w':=by
 cases r with
 | cons r1 r2 =>
  cases r2 with
  | cons r3 r4=>cases r4;exact ⟨_,_,rfl,r1,r3⟩
theorem nT:cK X (.builtin "abs") (fun xs H Q=>∃i,xs=[.int i]∧Q (.int (if i<0 then -i else i)) H):=by
 intro pins s σ H xs us Q I r h
 obtain ⟨i,rfl,q⟩:=h
 obtain ⟨u,rfl,t,rfl⟩:=fZ r
 exact call_abs_int fun u tk=>⟨.int (if i<0 then -i else i),H,I.tok _,⟨_,rfl⟩,q⟩
theorem lO (hc:X.calm=true):cK X (.builtin "min") (fun xs H Q=>∃i j,xs=[.int i,.int j]∧Q (.int (if j<i then j else i)) H):=by
 intro pins s σ H xs us Q I r h
 obtain ⟨i,j,rfl,q⟩:=h
 obtain ⟨u,w',rfl,⟨t,rfl⟩,⟨t',rfl⟩⟩:=vals2 r
 refine min_two_ints (I.ok.hd hc) fun h' tk k=>⟨_,H,I.kept k,?_,q⟩
 by_cases hj:j<i
 ·rw[if_pos hj,if_pos hj];exact ⟨_,rfl⟩
 ·rw[if_neg hj,if_neg hj];exact ⟨_,rfl⟩
theorem jN:cK X (.type "str") (fun xs H Q=>∃i,xs=[.int i]∧i.natAbs.log2<1920∧Q (.str (toString i)) H):=by
 intro pins s σ H xs us Q I r h
 obtain ⟨i,rfl,hz,q⟩:=h
 obtain ⟨u,rfl,t,rfl⟩:=fZ r
 exact PySem.P.str_of_int hz ⟨.str _,H,I.tok _,⟨_,rfl⟩,q⟩
def LenV (K:PySem.W.Frag) (x:V) (H:Hp) (n:Nat):Prop :=
 match x with
 | .str y=>y.length≤sizeLine∧n=y.length
 | .byt y=>y.size≤sizeLine∧n=y.size
 | .ref p=>(∃xs,SqL K H p xs∧n=xs.length)∨∃xs,SqT K H p xs∧n=xs.length
 | _=>False
theorem fe:cK X (.builtin "len") (fun xs H Q=>∃x n,xs=[x]∧LenV X.K x H n∧Q (.int n) H):=by
 intro pins s σ H xs us Q I r h
 obtain ⟨x,n,rfl,e,q⟩:=h
 obtain ⟨u,rfl,rx⟩:=fZ r
 have hl:=fw
 have hs:sizeLine=16777216:=sizeLine_eq
 cases x with
 | str y =>
  obtain ⟨t,rfl⟩:=rx
  obtain ⟨hy,e'⟩:y.length≤sizeLine∧n=y.length:=e
  subst e'
  exact len_str (by omega) ⟨.int _,H,I.tok _,⟨_,rfl⟩,q⟩
 | byt y =>
  obtain ⟨t,rfl⟩:=rx
  obtain ⟨hy,e'⟩:y.size≤sizeLine∧n=y.size:=e
  subst e'
  exact PySem.W.len_bytes (by omega) ⟨.int _,H,I.tok _,⟨_,rfl⟩,q⟩
 | ref p =>
  cases rx
  have e':(∃xs,SqL X.K H p xs∧n=xs.length)∨∃xs,SqT X.K H p xs∧n=xs.length:=e
  rcases e' with ⟨xs,hx,e'⟩|⟨xs,hx,e'⟩
  ·subst e'
   obtain ⟨its,r',pl,hz⟩:=I.list hx
   have hlen:=r'.length
   exact Calls.call_len_list pl.isList (by simp only[List.size_toArray];omega) ⟨.int xs.length,H,I.tok _,⟨_,by simp only[List.size_toArray];rw[hlen]⟩,q⟩
  ·subst e'
   obtain ⟨its,r',pl,hz⟩:=I.tuple hx
   have hlen:=r'.length
   exact len_tuple pl (by simp only[List.size_toArray];omega) ⟨.int xs.length,H,I.tok _,⟨_,by simp only[List.size_toArray];rw[hlen]⟩,q⟩
 | _=>exact (show False from e).elim
end
section
variable {prog:Program} {w:World} {A:Around} {E:Value→Shared→Prop} {s:Shared} {K:PySem.W.Frag} {x dx C f:Addr} {mA:Str→Option Value} {name:Str} {v:Value}
end
section
variable {P:Program} {w:World} {H H':Hp} {h h':Heap} {a C dx:Addr} {fs fs':List (Str × V)}
end
section
variable {X:Cx} {pins:List (Addr × Obj)} {σ:St} {H:Hp} {s:Shared} {a C dx:Addr} {fs:List (Str × V)} {f:Str} {v:V} {A:Around} {E:Value→Shared→Prop}
end
section
variable {X:Cx} {o e value:Expr} {f:Str} {pos pos' tpos:Pos} {ta tv:TE}
end
section
variable {X:Cx} {pins:List (Addr × Obj)} {σ:St} {H:Hp} {s:Shared} {A:Around} {E:Value→Shared→Prop} {Q:Value→Shared→Prop} {c:Value} {b:Bool}
end
structure Room (k:Nat) (A:Around):Prop where
 hd:A.handled=none
 dp:A.depth+3 * k+5<recursionLimit
 un:A.units+16 * k+200<cLine
 gd:A.guards=some []
theorem Room.mono {j k:Nat} {A:Around} (r:Room k A) (h:j≤k):Room j A:=⟨r.hd,by have:=r.dp;omega,by have:=r.un;omega,r.gd⟩
theorem Room.deeper {k:Nat} {A:Around} (r:Room (k+1) A) (env:Env):Room k (A.deeper env) :=
 ⟨r.hd,by have:=r.dp;show A.depth+1+3 * k+5<_;omega,by have:=r.un;show A.units+3+16 * k+200<_;omega,r.gd⟩
theorem Room.depth {k:Nat} {A:Around} (r:Room k A):A.depth<recursionLimit:=by have:=r.dp;omega
theorem Room.units {k:Nat} {A:Around} (r:Room k A):A.units+64<cLine:=by have:=r.un;omega
def tNil:TA:=fun _ H Q=>Q [] H
def tCons (ta:TE) (tr:TA):TA:=fun σ H Q=>ta σ H fun x H1=>tr σ H1 fun xs H2=>Q (x::xs) H2
section
variable {X:Cx} {e:Expr} {es:List Expr} {te:TE} {t:TA} {pos:Pos}
theorem m6:PA X [] tNil:=fun _ _ _ _ H Q I h=>Calls.spliced_nil ⟨[],H,I,.nil,h⟩
theorem ig (ha:PE X e te) (hr:PA X es t) (hs:starEach (e::es) X.env=(false,eval e X.env)::starEach es X.env:=by rfl):PA X (e::es) (tCons te t):=by
 intro pos pins s σ H Q I h
 rw[hs]
 show wpAny _ _ (spliced ((false,eval e X.env)::backTo pos (starEach es X.env))) _ _ s
 refine Calls.spliced_cons (thn (ha pins s σ H _ I h) fun u s1 ⟨x,H1,I1,r1,q1⟩=>?_)
 exact thn (hr pos pins s1 σ H1 _ I1 q1) fun us s2 ⟨xs,H2,I2,r2,q2⟩=>⟨x::xs,H2,I2,.cons r1 r2,q2⟩
def tTup (t:TA):TE:=fun σ H Q=>t σ H fun xs H1=>xs.length≤sizeLine∧∀p,H1 p=none→Q (.ref p) (upd H1 p (.tup xs))
def tLst (t:TA):TE:=fun σ H Q=>t σ H fun xs H1=>xs.length≤sizeLine∧∀p,H1 p=none→Q (.ref p) (upd H1 p (.lst xs))
theorem pe_tup {x1} (h:PA X es t):PE X (.Tuple es x1 pos) (tTup t):=by
 intro pins s σ H Q I hq
 refine wpAny_Tuple_spliced (thn (h pos pins s σ H _ I hq) fun us s1 ⟨xs,H1,I1,r,z,q⟩=>⟨by rw[←r.length];exact z,?_⟩)
 have hf:H1 s1.heap.objs.size=none:=I1.hok.fresh (Nat.le_refl _)
 refine ⟨.ref s1.heap.objs.size,upd H1 s1.heap.objs.size (.tup xs),I1.laid (t':=s1.toks) (fun b u e=>Heap.get?_push_of_some _ e) (Nat.le_refl _) ?_,rfl,q _ hf⟩
 exact ⟨z,us,r,⟨_,Heap.get?_push_size _ rfl,rfl,_,rfl⟩⟩
theorem pe_lst (h:PA X es t):PE X (.List es pos) (tLst t):=by
 intro pins s σ H Q I hq
 refine wpAny_List_spliced (thn (h pos pins s σ H _ I hq) fun us s1 ⟨xs,H1,I1,r,z,q⟩=>⟨by rw[←r.length];exact z,?_⟩)
 have hf:H1 s1.heap.objs.size=none:=I1.hok.fresh (Nat.le_refl _)
 refine ⟨.ref s1.heap.objs.size,upd H1 s1.heap.objs.size (.lst xs),I1.laid (t':=s1.toks) (fun b u e=>Heap.get?_push_of_some _ e) (Nat.le_refl _) ?_,rfl,q _ hf⟩
 exact ⟨z,us,0,r,Heap.get?_push_size _ rfl⟩
end
abbrev Sp:=List V→Hp→VK→XK→Prop
abbrev CXT:=List Env→Hp→Shared→XK→Value→Shared→Prop
structure Env0 (P:Program) (w:World) (K:PySem.W.Frag) (mg:Str→Option Value) (base:Heap) (A:Around) (outer:List Env) (s:Shared) (H:Hp):Prop where
 frames:A.frames=some outer
 mod:Mod K mg base
 bs:∀b o,base.get? b=some o→s.heap.get? b=some o∧H b=none
 bsz:base.objs.size≤s.heap.objs.size
 funs:s.heap.FunFrames base outer
 frf:∀b∈frs outer,H b=none
 hok:HOk P w H s.heap
 bare:AllBare s.gens
def CE (outer:List Env) (P:Program) (w:World) (H:Hp) (s:Shared) (Q:VK) (u:Value) (s':Shared):Prop :=
 ∃v H',s'.os=s.os∧AllBare s'.gens∧Un (frs outer) [] H H' s.heap s'.heap∧HOk P w H' s'.heap∧RelV v u∧Q v H'
def CR (CX:CXT) (outer:List Env) (P:Program) (w:World) (H:Hp) (s:Shared) (Q:VK) (E:XK) (r:Result) (s':Shared):Prop :=
 match r with
 | .ok (.ret u)=>CE outer P w H s Q u s'
 | .ok _=>False
 | .error e=>CX outer H s E e s'
structure FnOk (P:Program) (w:World) (K:PySem.W.Frag) (mg:Str→Option Value) (base:Heap) (CX:CXT) (k:Nat) (f:Addr) (fd:FuncData) (ps:List Str) (sp:Sp):Prop where
 len:∀vs H Q E,sp vs H Q E→vs.length=ps.length
 run:∀(A:Around) (outer:List Env) (s:Shared) (H:Hp) (args:Args) (us:List Value) (vs:List V) (Q:VK) (E:XK),Room k A→Env0 P w K mg base A outer s H→BindsTo s fd args (ps.zip us)→Vals vs us→sp vs H Q E →
  codeAny (model P w) A (.call (.ref f) args) (CR CX outer P w H s Q E) s
theorem FnOk.mono {P:Program} {w:World} {K:PySem.W.Frag} {mg:Str→Option Value} {base:Heap} {CX:CXT} {j k:Nat} {f:Addr} {fd:FuncData} {ps:List Str} {sp:Sp} (F:FnOk P w K mg base CX j f fd ps sp) (h:j≤k) :
  FnOk P w K mg base CX k f fd ps sp:=⟨F.len,fun A outer s H args us vs Q E hr=>F.run A outer s H args us vs Q E (hr.mono h)⟩
theorem FnOk.imp {P:Program} {w:World} {K:PySem.W.Frag} {mg:Str→Option Value} {base:Heap} {CX:CXT} {k:Nat} {f:Addr} {fd:FuncData} {ps:List Str} {sp sp':Sp} (F:FnOk P w K mg base CX k f fd ps sp)
  (h:∀vs H Q E,sp' vs H Q E→sp vs H Q E):FnOk P w K mg base CX k f fd ps sp' :=
 ⟨fun vs H Q E q=>F.len vs H Q E (h _ _ _ _ q),fun A outer s H args us vs Q E hr he hb hv hs=>F.run A outer s H args us vs Q E hr he hb hv (h _ _ _ _ hs)⟩
section
variable {X:Cx} {pins:List (Addr × Obj)} {σ:St} {H:Hp} {s s':Shared}
theorem Inv.env0 (I:Inv X pins σ H s):Env0 X.prog X.w X.K X.mg X.base X.A X.stack s H :=
 ⟨I.ok.frames,I.ok.mod,I.bs,Nat.le_trans I.ok.bsz I.sz,I.stack,I.stkFree,I.hok,I.bare⟩
theorem Inv.after {Q:VK} {u:Value} (I:Inv X pins σ H s) (h:CE X.stack X.prog X.w H s Q u s'):EP X pins σ Q u s':=by
 obtain ⟨v,H',os,bare,un,hok,r,q⟩:=h
 obtain ⟨hh,g,d,t,os'⟩:=s'
 obtain rfl:os'=s.os:=os
 exact ⟨v,H',I.call (h':=hh) (g':=g) (d':=d) (t':=t) (ch:=[]) un hok bare (fun b z=>absurd z (by simp)),r,q⟩
end
def gO (K:PySem.W.Frag) (fd:FuncData) (ps:List Str) (ds:List Value):Prop :=
 ∀(s:Shared) (us:List Value),K.In s.heap→(us++ds).length=ps.length→BindsTo s fd ⟨us,[]⟩ (ps.zip (us++ds))
theorem gO.all {K:PySem.W.Frag} {fd:FuncData} {ps:List Str} (h:∀us:List Value,us.length=ps.length→bindArgs fd ⟨us,[]⟩=pure (ps.zip us)):gO K fd ps []:=fun s us _ hl=>by
 rw[List.append_nil] at hl ⊢
 exact .of_eq (h us hl)
section
variable {X:Cx} {CX:CXT} {k:Nat} {f C:Addr} {fd:FuncData} {ps:List Str} {sp:Sp} {dvs:List V} {ds:List Value} {E:XK} {x m:Str} {p pos apos:Pos} {e o:Expr} {es:List Expr} {ta:TE} {t:TA}
end
section
variable {X:Cx} {CX:CXT} {k:Nat} {f C:Addr} {fd:FuncData} {ps ks:List Str} {sp:Sp} {E:XK} {x m:Str} {p pos apos kpos:Pos} {e o:Expr} {es:List Expr} {kws:List Keyword} {te ta:TE} {t tk:TA} {nm:Option Str}
variable {g:List Value→List Value→List Value} {gV:List V→List V→List V}
end
structure FnScope (N P:List Str) (sc:Scope):Prop where
 kind:sc.kind=.function
 co:sc.isCoroutine=false
 gen:sc.isGenerator=false
 nd:N.Nodup
 pre:N.take P.length=P
 par:∀x∈P,sc.names.lookup x=some .local∨sc.names.lookup x=some .cell
 nofree:∀y∈sc.names,y.2≠.free
theorem iU {kindOf:Str→Option NameKind} {x:Str}:∀{binds:List (Str × Value)} {m:Str→Option Value},(∀v,(x,v)∉binds)→bindL kindOf binds m x=m x
 | [],_,_=>rfl
 | (n,v)::r,m,h=>by
  unfold bindL
  rw[iU fun w hw=>h w (List.mem_cons_of_mem _ hw)]
  split
  ·have:x≠n:=by rintro rfl;exact h v List.mem_cons_self
   simp[this]
  ·rfl
theorem iI {kindOf:Str→Option NameKind} {x:Str}:∀{binds:List (Str × Value)} {m:Str→Option Value},(∀v,(x,v)∉binds)→bindC kindOf binds m x=m x
 | [],_,_=>rfl
 | (n,v)::r,m,h=>by
  unfold bindC
  rw[iI fun w hw=>h w (List.mem_cons_of_mem _ hw)]
  split
  ·rfl
  ·have:x≠n:=by rintro rfl;exact h v List.mem_cons_self
   simp[this]
theorem iT {kindOf:Str→Option NameKind} {x:Str} {v:Value}:∀{P:List Str} {vs:List Value} {i:Nat} {m:Str→Option Value},P.Nodup→P[i]?=some x→vs[i]?=some v→kindOf x=some .local →
  bindL kindOf (P.zip vs) m x=some v
 | [],_,_,_,_,h,_,_=>by simp at h
 | _::_,[],_,_,_,_,h,_=>by simp at h
 | p::P,w::vs,0,m,nd,h1,h2,hk=>by
  simp at h1 h2;subst h1;subst h2
  show bindL kindOf ((p,w)::P.zip vs) m p=_
  unfold bindL
  rw[iU fun v hv=>(List.nodup_cons.mp nd).1 (List.of_mem_zip hv).1,if_pos hk]
  simp
 | p::P,w::vs,i+1,m,nd,h1,h2,hk=>by
  show bindL kindOf ((p,w)::P.zip vs) m x=_
  unfold bindL
  exact iT (i:=i) (List.nodup_cons.mp nd).2 (by simpa using h1) (by simpa using h2) hk
theorem iL {kindOf:Str→Option NameKind} {x:Str} {v:Value}:∀{P:List Str} {vs:List Value} {i:Nat} {m:Str→Option Value},P.Nodup→P[i]?=some x→vs[i]?=some v→kindOf x≠some .local →
  bindC kindOf (P.zip vs) m x=some v
 | [],_,_,_,_,h,_,_=>by simp at h
 | _::_,[],_,_,_,_,h,_=>by simp at h
 | p::P,w::vs,0,m,nd,h1,h2,hk=>by
  simp at h1 h2;subst h1;subst h2
  show bindC kindOf ((p,w)::P.zip vs) m p=_
  unfold bindC
  rw[iI fun v hv=>(List.nodup_cons.mp nd).1 (List.of_mem_zip hv).1,if_neg hk]
  simp
 | p::P,w::vs,i+1,m,nd,h1,h2,hk=>by
  show bindC kindOf ((p,w)::P.zip vs) m x=_
  unfold bindC
  exact iL (i:=i) (List.nodup_cons.mp nd).2 (by simpa using h1) (by simpa using h2) hk
def start (N:List Str) (vs:List V):St:=vs.map some++List.replicate (N.length - vs.length) none
def cxOf (CX:CXT) (P:Program) (w:World) (K:PySem.W.Frag) (mg:Str→Option Value) (base:Heap) (N:List Str) (qual:Str) (scope:Scope) (f:Addr) (cd:Value) (A:Around) (outer:List Env) (s:Shared) (H:Hp) (E:XK):Cx where
 prog:=P
 w:=w
 K:=K
 mg:=mg
 base:=base
 A:=A.deeper (envOfC qual scope s.heap.objs.size f cd)
 N:=N
 s₀:=s
 H₀:=H
 env:=envOfC qual scope s.heap.objs.size f cd
 outer:=outer
 stack:=envOfC qual scope s.heap.objs.size f cd::outer
 ex:=[]
 calm:=true
 fn:=fun _=>true
 pn:=[]
 xe:=fun e s'=>wpAny (model P w) (A.deeper (envOfC qual scope s.heap.objs.size f cd)) (leaving (envOfC qual scope s.heap.objs.size f cd) e) (fun _ s''=>CX outer H s E e s'') (fun e' s''=>CX outer H s E e' s'') s'
theorem jm {sc:Scope} {n:Nat} {x:Str} (h:sc.names.lookup x=some .cell):∃c,(cellsFrom n sc.names []).lookup x=some c:=by
 have q:=PySem.W.cellsFrom_some sc.names n [] (.inl h)
 exact Option.isSome_iff_exists.mp q
theorem mL {CX:CXT} {P:Program} {w:World} {K:PySem.W.Frag} {mg:Str→Option Value} {base:Heap} {N ps:List Str} {qual:Str} {scope:Scope} {f:Addr} {cd:Value} {A:Around} {outer:List Env} {s s1:Shared} {H:Hp} {E:XK} {us:List Value} {vs:List V}
  (S:FnScope N ps scope) (hd:A.handled=none) (e0:Env0 P w K mg base A outer s H) (hl:vs.length=ps.length) (r:Vals vs us)
  (x:InCallC s s.heap.objs.size (bindL (envOfC qual scope s.heap.objs.size f cd).kindOf (ps.zip us) fun _=>none) (cellsFrom (s.heap.objs.size+1) scope.names []) (bindC (envOfC qual scope s.heap.objs.size f cd).kindOf (ps.zip us) fun _=>none) s1) :
  Inv (cxOf CX P w K mg base N qual scope f cd A outer s H E) [] (start N vs) H s1:=by
 have hpl:ps.length≤N.length:=by have:=congrArg List.length S.pre;rw[List.length_take] at this;omega
 obtain ⟨h1,tk,rfl,hk⟩:=x.done
 have noA:∀b:Addr,b∉(cxOf CX P w K mg base N qual scope f cd A outer s H E).ex:=fun b z=>absurd (show b∈([]:List Addr) from z) (by simp)
 refine ⟨⟨e0.mod,S.kind,rfl,rfl,Nat.le_refl _,fun y z c h1 h2=>?_,fun y hy=>?_,fun y c _ h=>?_,fun _=>hd,Around.frames_deeper e0.frames,.inr ⟨rfl,rfl⟩,fun b z=>absurd z (noA b),e0.bs,e0.bsz,fun b _ _=>noA b,fun b z=>absurd z (noA b),e0.funs,e0.frf⟩,
  rfl,e0.bare,Un.kept hk,⟨_,x.toInCall.ns,fun i y v h1 h2 h3=>?_⟩,fun y c h=>⟨_,x.cell y c h⟩,e0.hok.fresh (Nat.le_refl _),fun y c h=>?_,fun p hp=>absurd (show p∈([]:List (Addr × Obj)) from hp) (by simp),e0.hok.kept hk,?_⟩
 ·exact name_of_addr x.apart (PySem.mem_of_lookup h1) (PySem.mem_of_lookup h2)
 ·have hy:scope.names.lookup y=some .cell∨scope.names.lookup y=some .free:=hy
  rcases hy with hy|hy
  ·exact jm hy
  ·exact absurd rfl (S.nofree _ (PySem.mem_of_lookup hy))
 ·exact Nat.le_of_lt (x.above y c (PySem.mem_of_lookup h))
 ·have hi:i<vs.length:=by
   unfold start at h2
   by_cases hi:i<vs.length
   ·exact hi
   ·rw[List.getElem?_append_right (by simpa using hi)] at h2
    rw[List.getElem?_replicate] at h2
    split at h2 <;> cases h2
  have ha:vs[i]?=some v:=by
   unfold start at h2
   rw[List.getElem?_append_left (by simpa using hi),List.getElem?_map] at h2
   cases e:vs[i]? with
   | none=>rw[e] at h2;cases h2
   | some a=>rw[e] at h2;cases h2;rfl
  obtain ⟨u,hu,rv⟩:=r.get ha
  have hp:ps[i]?=some y:=by
   rw[←S.pre,List.getElem?_take_of_lt (by omega)];exact h1
  have ndP:ps.Nodup:=by rw[←S.pre];exact S.nd.sublist (List.take_sublist _ _)
  refine ⟨u,rv,?_⟩
  rcases S.par y (List.mem_of_getElem? hp) with k|k
  ·exact .inl ⟨k,iT ndP hp hu k⟩
  ·obtain ⟨c,e⟩:=jm (n:=s.heap.objs.size+1) k
   refine .inr ⟨.inl k,c,e,?_⟩
   have q:=x.cell y c e
   rw[iL ndP hp hu (by show scope.names.lookup y≠_;rw[k];decide)] at q
   exact q
 ·exact e0.hok.fresh (Nat.le_of_lt (x.above y c (PySem.mem_of_lookup h)))
 ·unfold start
  show _=N.length
  rw[List.length_append,List.length_map,List.length_replicate]
  omega
theorem fn_of {CX:CXT} {P:Program} {w:World} {K:PySem.W.Frag} {mg:Str→Option Value} {base:Heap} {k:Nat} {f:Addr} {name qual:Str} {params:Arguments} {body:List Stmt} {scope:Scope} {dV kV doc pm cdv ct oc:Value} {an od:Option Addr}
  {osl:Array (Option Value)} {N ps:List Str} {sp:Sp} (lk:K.lookup f=some ⟨oc,od,.func (PySem.W.fnOf name qual params body scope dV kV doc pm an cdv ct),osl⟩) (hcd:PySem.W.codeIn K cdv qual=true) (S:FnScope N ps scope)
  (len:∀vs H Q E,sp vs H Q E→vs.length=ps.length)
  (hbody:∀(A:Around) (outer:List Env) (s:Shared) (H:Hp) (vs:List V) (Q:VK) (E:XK),Room k (A.deeper (envOfC qual scope s.heap.objs.size f cdv))→sp vs H Q E →
   ∃t,PSs (cxOf CX P w K mg base N qual scope f cdv A outer s H E) body t∧t { nx:=fun _ H'=>Q .non H',rt:=Q} (start N vs) H) :
  FnOk P w K mg base CX (k+1) f (PySem.W.fnOf name qual params body scope dV kV doc pm an cdv ct) ps sp:=by
 refine ⟨len,fun A outer s H args us vs Q E hr e0 hb r hsp=>?_⟩
 have hl:=len _ _ _ _ hsp
 have KX:K.In s.heap:=e0.mod.kin.keeps fun b o e=>(e0.bs b o e).1
 have lim:s.heap.NoLimit:=e0.mod.nolimit.keeps fun b o e=>(e0.bs b o e).1
 have hkind:∀y∈ps.zip us,scope.names.lookup y.1=some .local∨(scope.names.lookup y.1=some .cell∧((cellsFrom (s.heap.objs.size+1) scope.names []).lookup y.1).isSome=true):=fun ⟨n,v⟩ hy=>by
  rcases S.par n (List.of_mem_zip hy).1 with q|q
  ·exact .inl q
  ·exact .inr ⟨q,PySem.W.cellsFrom_some _ _ _ (.inl q)⟩
 refine codeAny_call_function hr.depth (KX _ _ lk) rfl S.co S.gen rfl (PySem.W.codeRec_of KX hcd) (hb _ _ _ _ ?_)
 refine wpAny_newFunctionEnv_cells S.kind hkind fun env he s1 x=>?_
 subst he
 refine ⟨lim.keeps x.toInCall.keep,codeAny_func ?_⟩
 obtain ⟨t,ht,hq⟩:=hbody A outer s H vs Q E (hr.deeper _) hsp
 have I:Inv (cxOf CX P w K mg base N qual scope f cdv A outer s H E) [] (start N vs) H s1:=mL S hr.hd e0 hl r x
 refine wpAny_mono (ht [] s1 (start N vs) H _ I hq) (fun fl s' hs=>?_) fun e s' hs=>hs
 have fin:∀{σ':St} {H':Hp} {v:V} {u:Value},Inv (cxOf CX P w K mg base N qual scope f cdv A outer s H E) [] σ' H' s'→RelV v u→Q v H'→CE outer P w H s Q u s' :=
  fun {σ' H' v u} J rv q=>⟨v,H',J.os,J.bare,J.base,J.hok,rv,q⟩
 cases fl with
 | ret u =>
  obtain ⟨v,σ',H',J,rv,q⟩:=hs
  exact fin J rv q
 | next =>
  obtain ⟨σ',H',J,q⟩:=hs
  exact fin (v:=V.non) (u:=Value.none) J rfl q
 | brk =>
  obtain ⟨_,_,_,q⟩:=hs
  exact False.elim q
 | cont =>
  obtain ⟨_,_,_,q⟩:=hs
  exact False.elim q
section
variable {X:Cx} {x:Str} {p pos:Pos} {e:Expr} {es:List Expr} {t:TA} {id T:String} {r:List V→Hp→VK→Prop}
def tCB (r:List V→Hp→VK→Prop) (t:TA):TE:=fun σ H Q=>t σ H fun vs H1=>r vs H1 Q
theorem j6 (hc:cK X (.builtin id) r) (hg:Gl X x) (hm:X.mg x=none) (hv:bootBuiltins x=some (.builtin id)) (ha:PA X (e::es) t) (hn:x≠"__name__":=by decide) (hdb:(x == ("__debug__":Str))=false:=by decide)
  (he:starEach (e::es) X.env=(false,eval e X.env)::starEach es X.env:=by rfl) (hpl:(backTo pos (starEach es X.env)).any (·.1)=false:=by rfl):PE X (.Call (.Name x p) (e::es) [] pos) (tCB r t):=by
 intro pins s σ H Q I h
 refine wpAny_Call_Name_kw (fM I hg hm hv ?_ hn hdb)
 exact PyProof.Rows.callWith_builtin1 (thn (ha pos pins s σ H _ I h) fun us s1 ⟨vs,H1,I1,r1,q1⟩=>hc pins s1 σ H1 vs us Q I1 r1 q1) he hpl
theorem mS (hc:cK X (.type T) r) (hg:Gl X x) (hm:X.mg x=none) (hv:bootBuiltins x=some (.type T)) (ha:PA X (e::es) t) (hn:x≠"__name__":=by decide) (hdb:(x == ("__debug__":Str))=false:=by decide)
  (he:starEach (e::es) X.env=(false,eval e X.env)::starEach es X.env:=by rfl) (hpl:(backTo pos (starEach es X.env)).any (·.1)=false:=by rfl):PE X (.Call (.Name x p) (e::es) [] pos) (tCB r t):=by
 intro pins s σ H Q I h
 refine wpAny_Call_Name_kw (fM I hg hm hv ?_ hn hdb)
 exact PyProof.Rows.callWith_type1 (thn (ha pos pins s σ H _ I h) fun us s1 ⟨vs,H1,I1,r1,q1⟩=>hc pins s1 σ H1 vs us Q I1 r1 q1) he hpl
end
end L2
namespace HT
open PySem PyProof.Rows
section
open PySem.SeqAt
open PySem.AutoSeq1 (wpAny_loadPart')
open PySem.MeetsSeq PySem.MeetsSeq2 PySem.MeetsSeq3
end
section
variable {prog:Program} {w:World} {A:Around} {E:Value→Shared→Prop} {s:Shared}
theorem cat_tup {t b:Addr} {vs ws:List Value} {Q:Value→Shared→Prop} (ht:IsTup s.heap t vs.toArray) (hb:IsTup s.heap b ws.toArray) (hv:vs≠[])
  (h1:ws=[]→Q (.ref t) s) (h2:ws≠[]→Q (.ref s.heap.objs.size) { s with heap:=s.heap.push { cls:=.type "tuple",data:=.seq (vs++ws).toArray}})
  (hsz:vs.length+ws.length≤sizeLine):wpAny (model prog w) A (binaryOp .Add (.ref t) (.ref b)) Q E s:=by
 obtain ⟨⟨cls,dd,data,sl⟩,ho,hc,n,hd⟩:=id ht
 obtain ⟨⟨cls2,dd2,data2,sl2⟩,ho2,hc2,n2,hd2⟩:=id hb
 simp only at hc hd hc2 hd2
 subst hc hd hc2 hd2
 have e:vs.toArray++ws.toArray=(vs++ws).toArray:=by simp
 by_cases hw:ws=[]
 ·exact concat_meets ⟨_,ho,rfl⟩ ⟨_,ho2,rfl⟩ noFill_tuple_add seq_tuple_add PySem.F.slot_tuple_add PySem.F.entry_tuple_add (PySem.F.args_tuple_add_2 _ _)
   (tuple_addW1 t b vs.toArray ws.toArray n n2 dd dd2 sl sl2 (by simpa using hv) (by simp[hw])) ⟨ho,ho2,h1 hw⟩
 ·refine concat_meets ⟨_,ho,rfl⟩ ⟨_,ho2,rfl⟩ noFill_tuple_add seq_tuple_add PySem.F.slot_tuple_add PySem.F.entry_tuple_add (PySem.F.args_tuple_add_2 _ _)
   (tuple_addW2 t b vs.toArray ws.toArray n n2 dd dd2 sl sl2 (by simpa using hv) (by simpa using hw) (by rw[List.size_toArray,List.size_toArray];exact hsz)) ⟨ho,ho2,?_⟩
  rw[e]
  exact h2 hw
end
end HT
namespace L2
open PySem PySem.Spec PyProof.Rows
section
variable {X:Cx} {e:Expr} {te:TE} {lo hi:Option Expr} {tl th:TO} {pos p2:Pos}
def rCatT (K:PySem.W.Frag):R2:=fun x y H Q=>∃a b xs ys,x=.ref a∧y=.ref b∧SqT K H a xs∧SqT K H b ys∧xs≠[]∧xs.length+ys.length≤sizeLine ∧
 (ys=[]→Q (.ref a) H)∧(ys≠[]→∀p,H p=none→Q (.ref p) (upd H p (.tup (xs++ys))))
theorem Vals.nil_iff {xs:List V} {us:List Value} (r:Vals xs us):us=[]↔xs=[]:=by
 cases r with
 | nil=>simp
 | cons _ _=>simp
theorem op_catT:OpR X (binaryOp .Add) (rCatT X.K):=by
 intro pins s σ H x y v u Q I rx ry h
 obtain ⟨a,b,xs,ys,rfl,rfl,ha,hb,hx,hz,q1,q2⟩:=h
 cases rx
 cases ry
 obtain ⟨its,r1,p1,_⟩:=I.tuple ha
 obtain ⟨its2,r2,p2,_⟩:=I.tuple hb
 refine HT.cat_tup p1 p2 (fun z=>hx (r1.nil_iff.mp z)) (fun z=>⟨.ref a,H,I,rfl,q1 (r2.nil_iff.mp z)⟩) (fun z=>?_) (by rw[←r1.length,←r2.length];exact hz)
 refine ⟨.ref s.heap.objs.size,_,I.laid (t':=s.toks) (o:=.tup (xs++ys)) (fun b ob q=>Heap.get?_push_of_some _ q) (Nat.le_refl _) ?_,rfl,q2 (fun w=>z (r2.nil_iff.mpr w)) _ (I.hok.fresh (Nat.le_refl _))⟩
 exact ⟨by rw[List.length_append];exact hz,_,r1.append r2,IsTup.new _ _⟩
end
def ixN (n:Nat) (i:Int):Option Nat:=if 0≤i then (if i<n then some i.toNat else none) else if -(n:Int)≤i then some (i+n).toNat else none
def atI {α:Type} (xs:List α) (i:Int):Option α:=(ixN xs.length i).bind fun j=>xs[j]?
theorem kN {n:Nat} {i:Int} {j:Nat} (h:ixN n i=some j):seqIndex? i n=some j∧j<n ∧ -(n:Int)≤i∧i<n:=by
 unfold ixN at h
 by_cases h0:0≤i
 ·rw[if_pos h0] at h
  by_cases h1:i<n
  ·rw[if_pos h1] at h
   have e:i.toNat=j:=Option.some.inj h
   exact ⟨by rw[seqIndex_of h0 h1,e],by omega,by omega,h1⟩
  ·rw[if_neg h1] at h;cases h
 ·rw[if_neg h0] at h
  by_cases h1:-(n:Int)≤i
  ·rw[if_pos h1] at h
   have e:(i+n).toNat=j:=Option.some.inj h
   exact ⟨by rw[seqIndex_neg (by omega) h1,e],by omega,h1,by omega⟩
  ·rw[if_neg h1] at h;cases h
theorem ib {α:Type} {xs:List α} {i:Int} {v:α} (h:atI xs i=some v):∃j,seqIndex? i xs.length=some j∧xs[j]?=some v∧j<xs.length ∧ -(xs.length:Int)≤i∧i<xs.length:=by
 unfold atI at h
 cases e:ixN xs.length i with
 | none=>rw[e] at h;cases h
 | some j =>
  rw[e] at h
  obtain ⟨h1,h2,h3,h4⟩:=kN e
  exact ⟨j,h1,h,h2,h3,h4⟩
theorem dL {α:Type} {xs:List α} {j:Nat} {v:α} (h:xs[j]?=some v):atI xs (j:Int)=some v:=by
 have hj:j<xs.length:=(List.getElem?_eq_some_iff.mp h).1
 have e:ixN xs.length (j:Int)=some j:=by
  unfold ixN
  rw[if_pos (by omega),if_pos (by omega)];simp
 unfold atI;rw[e];exact h
def kK (b:Expr):Prop:=∀o i,subscripted b false o i=operate [o,i] (getItem o i)
def IxR (X:Cx) (r:R2):Prop :=
 ∀(value slice:Expr) (pins:List (Addr × Obj)) (s:Shared) (σ:St) (H:Hp) (x y:V) (v u:Value) (Q:VK),Inv X pins σ H s→RelV x v→RelV y u→r x y H Q →
  subscripted slice false v u=operate [v,u] (getItem v u)→wpAny (model X.prog X.w) X.A (subscriptTail value slice v u) (EP X pins σ Q) X.xe s
def MtR (X:Cx) (id:String) (r:V→List V→Hp→VK→Prop):Prop :=
 ∀(pins:List (Addr × Obj)) (s:Shared) (σ:St) (H:Hp) (x:V) (xs:List V) (v:Value) (us:List Value) (Q:VK),Inv X pins σ H s→RelV x v→Vals xs us→r x xs H Q →
  wpAny (model X.prog X.w) X.A (call (.builtin id) (v::us)) (EP X pins σ Q) X.xe s
section
variable {X:Cx} {a b:Expr} {ta tb:TE} {pos:Pos}
theorem IxR.or {r r':R2} (h:IxR X r) (h':IxR X r'):IxR X (fun x y H Q=>r x y H Q∨r' x y H Q):=by
 intro value slice pins s σ H x y v u Q I rx ry q hs
 rcases q with q|q
 ·exact h value slice pins s σ H x y v u Q I rx ry q hs
 ·exact h' value slice pins s σ H x y v u Q I rx ry q hs
theorem pe_ix {r:R2} (hr:IxR X r) (ha:PE X a ta) (hb:PE X b tb) (hs:kK b):PE X (.Subscript a b pos) (tOp r ta tb):=by
 intro pins s σ H Q I h
 exact Subscript_ (binT ha hb I h fun v u s2 x y H2 I2 rx ry q=>hr a b pins s2 σ H2 x y v u Q I2 rx ry q (hs _ _))
def rIxL (K:PySem.W.Frag):R2:=fun x y H Q=>∃p xs i v,x=.ref p∧y=.int i∧SqL K H p xs∧atI xs i=some v∧Q v H
def rIxT (K:PySem.W.Frag):R2:=fun x y H Q=>∃p xs i v,x=.ref p∧y=.int i∧SqT K H p xs∧atI xs i=some v∧Q v H
def rIxS:R2:=fun x y H Q=>∃z i c,x=.str z∧y=.int i∧z.length≤sizeLine∧atI z.cps.toList i=some c∧Q (.str ⟨#[c]⟩) H
theorem ix_list:IxR X (rIxL X.K):=by
 intro value slice pins s σ H x y v u Q I rx ry h hs
 obtain ⟨p,xs,i,z,rfl,rfl,hq,he,q⟩:=h
 cases rx
 obtain ⟨t,rfl⟩:=ry
 obtain ⟨its,r,pl,hz⟩:=I.list hq
 obtain ⟨j,h1,h2,h3,h4,h5⟩:=ib he
 obtain ⟨w,ew,rw'⟩:=r.get h2
 have hl:=r.length
 have hn:=fw
 have fin:EP X pins σ Q w s:=⟨z,H,I,rw',q⟩
 by_cases h0:0≤i
 ·have hj:i.toNat=j:=by
   rw[seqIndex_of h0 h5] at h1
   exact Option.some.inj h1
  exact item_listR pl.isList h0 (by omega) (by rw[hj];simpa using ew) fin hs
 ·have hj:(i+(its.toArray.size:Int)).toNat=j:=by
   rw[seqIndex_neg (by omega) h4] at h1
   rw[List.size_toArray,←hl]
   exact Option.some.inj h1
  exact subscriptTail_builtinR (x:=w) pl.isList.typeIs slot_list_getitem.lookup
   (wpAny_getItem_list_neg (Q:=fun r s'=>r=w∧EP X pins σ Q r s') pl.isList (by omega) (by rw[List.size_toArray] <;> omega) (by omega) (by rw[hj];simpa using ew) ⟨rfl,fin⟩) hs
theorem ix_tup:IxR X (rIxT X.K):=by
 intro value slice pins s σ H x y v u Q I rx ry h hs
 obtain ⟨p,xs,i,z,rfl,rfl,hq,he,q⟩:=h
 cases rx
 obtain ⟨t,rfl⟩:=ry
 obtain ⟨its,r,pl,hz⟩:=I.tuple hq
 obtain ⟨j,h1,h2,h3,h4,h5⟩:=ib he
 obtain ⟨w,ew,rw'⟩:=r.get h2
 have hl:=r.length
 have hn:=fw
 have fin:EP X pins σ Q w s:=⟨z,H,I,rw',q⟩
 exact subscriptTail_builtinR (x:=w) pl.typeIs slot_tuple_getitem.lookup
  (getItem_tuple (j:=j) (Q:=fun r s'=>r=w∧EP X pins σ Q r s') pl (by omega) (by omega) (by rw[List.size_toArray,←hl];exact h1) (by simpa using ew) ⟨rfl,fin⟩) hs
theorem ix_str:IxR X rIxS:=by
 intro value slice pins s σ H x y v u Q I rx ry h hs
 obtain ⟨z,i,c,rfl,rfl,hz,he,q⟩:=h
 obtain ⟨t,rfl⟩:=rx
 obtain ⟨t',rfl⟩:=ry
 obtain ⟨j,h1,h2,h3,h4,h5⟩:=ib he
 have hl:z.cps.toList.length=z.length:=by simp[Str.length]
 rw[hl] at h1 h4 h5
 have hn:=fw
 exact tail_any (typeIs_str s z t) slot_str_getitem.lookup (getItem_str (c:=c) (by
  have e1:decide (i < -(2 ^ 63:Int))=false:=decide_eq_false (by omega)
  have e2:decide (i≥2 ^ 63)=false:=decide_eq_false (by omega)
  rw[e1,e2,Bool.or_false]) (by rw[h1];simpa using h2) ⟨.str ⟨#[c]⟩,H,I.tok _,⟨_,rfl⟩,q⟩) hs
def rIx (K:PySem.W.Frag):R2:=fun x y H Q=>rIxL K x y H Q∨rIxT K x y H Q∨rIxS x y H Q
theorem ix_seq:IxR X (rIx X.K):=ix_list.or (ix_tup.or ix_str)
theorem ln (its:List Value) (n j:Nat) (u:Value):Obj.mapSeq (·.setIfInBounds j u) { cls:=.type "list",data:=.seq its.toArray n}={ cls:=.type "list",data:=.seq (its.set j u).toArray n}:=by
 simp[Obj.mapSeq]
theorem Inv.lst {pins:List (Addr × Obj)} {σ:St} {H:Hp} {s:Shared} {p:Addr} {xs:List V} (I:Inv X pins σ H s) (h:H p=some (.lst xs)) :
  ∃(its:List Value) (n:Nat),Vals xs its∧s.heap.get? p=some { cls:=.type "list",data:=.seq its.toArray n}∧xs.length≤sizeLine:=by
 obtain ⟨z,its,n,r,e⟩:=I.hok p _ h
 exact ⟨its,n,r,e,z⟩
theorem Inv.lstUpd {pins:List (Addr × Obj)} {σ:St} {H:Hp} {s:Shared} {p:Addr} {xs ys:List V} {its its':List Value} {n n':Nat} {f:Obj→Obj} (I:Inv X pins σ H s) (h:H p=some (.lst xs))
  (ho:s.heap.get? p=some { cls:=.type "list",data:=.seq its.toArray n}) (hf:f { cls:=.type "list",data:=.seq its.toArray n}={ cls:=.type "list",data:=.seq its'.toArray n'}) (r:Vals ys its') (hz:ys.length≤sizeLine) (t:Nat) :
  Inv X pins σ (upd H p (.lst ys)) { s with heap:=s.heap.update p f,toks:=t}:=by
 have e:(s.heap.update p f).get? p=some { cls:=.type "list",data:=.seq its'.toArray n'}:=by
  rw[Heap.get?_update_self f ho (by rw[hf] <;> rfl),hf]
 refine I.write (x:=p) (e:=p) (by rw[h];trivial) (.inl rfl) (fun b u hb q=>(Heap.get?_update_other _ _ (Ne.symm hb)).trans q) ⟨_,e⟩ ?_
 exact ⟨hz,its',n',r,e⟩
def rSetL:V→V→V→Hp→(Hp→Prop)→Prop:=fun o i v H Q=>∃p xs k j,o=.ref p∧i=.int k∧H p=some (.lst xs)∧ixN xs.length k=some j∧Q (upd H p (.lst (xs.set j v)))
theorem oe:PSet X rSetL:=by
 intro pins s σ H o i v ov iv u Q I ro ri rv h
 obtain ⟨p,xs,k,j,rfl,rfl,hp,hj,q⟩:=h
 cases ro
 obtain ⟨t,rfl⟩:=ri
 obtain ⟨its,n,r,ho,hz⟩:=I.lst hp
 obtain ⟨h1,h2,h3,h4⟩:=kN hj
 have hl:=r.length
 have hn:=fw
 have I':Inv X pins σ (upd H p (.lst (xs.set j v))) { s with heap:=s.heap.update p (Obj.mapSeq (·.setIfInBounds j u))} :=
  I.lstUpd hp ho (ln its n j u) (r.set rv j) (by rw[List.length_set];exact hz) s.toks
 by_cases h0:0≤k
 ·have hk:k.toNat=j:=by
   rw[seqIndex_of h0 h4] at h1
   exact Option.some.inj h1
  exact PySem.W.ki_setAt ho h0 (by omega) (by rw[List.size_toArray,←hl];exact h4) (by rw[hk];exact ⟨_,I',q⟩)
 ·have hk:(k+(its.toArray.size:Int)).toNat=j:=by
   rw[seqIndex_neg (by omega) h3] at h1
   rw[List.size_toArray,←hl]
   exact Option.some.inj h1
  exact PySem.W.ki_setBack ho (by omega) (by rw[List.size_toArray,←hl];exact h3) (by omega) (by rw[hk];exact ⟨_,I',q⟩)
theorem jT:cK X (.type "list") (fun xs H Q=>∃p ys,xs=[.ref p]∧(SqL X.K H p ys∨SqT X.K H p ys)∧∀l,H l=none→Q (.ref l) (upd H l (.lst ys))):=by
 intro pins s σ H xs us Q I r h
 obtain ⟨p,ys,rfl,hq,q⟩:=h
 obtain ⟨u,rfl,rx⟩:=fZ r
 cases rx
 have fin:∀(its:List Value),Vals ys its→ys.length≤sizeLine→∀(h':Heap) (c':Nat),(∀b o',s.heap.get? b=some o'→h'.get? b=some o') →
   h'.get? s.heap.objs.size=some { cls:=.type "list",dict:=none,data:=.seq its.toArray c',slots:=#[]}→EP X pins σ Q (.ref s.heap.objs.size) { s with heap:=h'}:=fun its r' hz h' c' kp e =>
  ⟨.ref s.heap.objs.size,_,I.laid (t':=s.toks) kp (Nat.le_refl _) (show ObjOk X.prog X.w _ h' _ (.lst ys) from ⟨hz,its,c',r',e⟩),rfl,q _ (I.hok.fresh (Nat.le_refl _))⟩
 rcases hq with hq|hq
 ·obtain ⟨its,r',pl,hz⟩:=I.list hq
  have hlen:=r'.length
  obtain ⟨o,ho,hc,n,hd⟩:=pl.isList
  exact call_list_seq p (.inl rfl) ho hc hd (fun h' c' kp e=>fin its r' hz h' c' kp e) (by simp only[List.size_toArray] <;> omega)
 ·obtain ⟨its,r',pl,hz⟩:=I.tuple hq
  have hlen:=r'.length
  obtain ⟨o,ho,hc,n,hd⟩:=pl
  exact call_list_seq p (.inr rfl) ho hc hd (fun h' c' kp e=>fin its r' hz h' c' kp e) (by simp only[List.size_toArray] <;> omega)
theorem fq:cK X (.type "tuple") (fun xs H Q=>∃p ys,xs=[.ref p]∧((SqL X.K H p ys∧∀l,H l=none→Q (.ref l) (upd H l (.tup ys)))∨(SqT X.K H p ys∧Q (.ref p) H))):=by
 intro pins s σ H xs us Q I r h
 obtain ⟨p,ys,rfl,h⟩:=h
 obtain ⟨u,rfl,rx⟩:=fZ r
 cases rx
 rcases h with ⟨hq,q⟩|⟨hq,q⟩
 ·obtain ⟨its,r',pl,hz⟩:=I.list hq
  have hlen:=r'.length
  refine call_tuple_list pl.isList (fun h' kp=>?_) (by simp only[List.size_toArray] <;> omega)
  have I1:Inv X pins σ H { s with heap:=h'}:=I.kept (t':=s.toks) kp
  have I2:Inv X pins σ (upd H h'.objs.size (.tup ys)) { s with heap:=h'.push { cls:=.type "tuple",data:=.seq its.toArray}} :=
   I1.laid (t':=s.toks) (fun b o e=>Heap.get?_push_of_some _ e) (Nat.le_refl _) (show ObjOk X.prog X.w _ _ _ (.tup ys) from ⟨hz,its,r',IsTup.new _ _⟩)
  exact ⟨.ref h'.objs.size,_,I2,rfl,q _ (I1.hok.fresh (Nat.le_refl _))⟩
 ·obtain ⟨its,r',pl,hz⟩:=I.tuple hq
  exact call_tuple_same pl ⟨.ref p,H,I,rfl,q⟩
def tyV (K:PySem.W.Frag) (T:String) (x:V) (H:Hp):Prop:=match x with
 | .str _=>T="str"
 | .int _=>T="int"
 | .ref p=>(T="list"∧∃xs,SqL K H p xs)∨(T="tuple"∧∃o,K.lookup p=some o∧o.cls=.type "tuple"∧o.dict=none) ∨
   (T="dict"∧((∃kvs,H p=some (.dK kvs))∨∃kvs,H p=some (.dT kvs)))∨(T="set"∧∃S n,H p=some (.set S n))
 | _=>False
theorem l0 {pins:List (Addr × Obj)} {σ:St} {H:Hp} {s:Shared} {T:String} {x:V} {v:Value} (I:Inv X pins σ H s) (r:RelV x v) (ty:tyV X.K T x H) :
  s.TypeIs v T∧∀a,v=.ref a→∃ob,s.heap.get? a=some ob∧ob.dict=none:=by
 cases x with
 | str z =>
  obtain ⟨t,rfl⟩:=r
  cases (show T="str" from ty)
  exact ⟨typeIs_str s z t,fun _ e=>nomatch e⟩
 | int i =>
  obtain ⟨t,rfl⟩:=r
  cases (show T="int" from ty)
  exact ⟨typeIs_int s i t,fun _ e=>nomatch e⟩
 | ref p =>
  cases r
  rcases ty with ⟨rfl,xs,hq⟩|⟨rfl,o,hk,hc,hd⟩|⟨rfl,hk⟩|⟨rfl,S,n,hk⟩
  ·obtain ⟨its,_,pl,_⟩:=I.list hq
   refine ⟨pl.isList.typeIs,fun a e=>?_⟩
   cases e
   obtain ⟨o,n,e,c,hd,_⟩:=pl
   exact ⟨o,e,hd⟩
  ·refine ⟨⟨o,I.kIn p o hk,hc⟩,fun a e=>?_⟩
   cases e
   exact ⟨o,I.kIn _ o hk,hd⟩
  ·have z:∃o,s.heap.get? p=some o∧o.ExactDict:=by
    rcases hk with ⟨kvs,hk⟩|⟨kvs,hk⟩
    ·obtain ⟨_,_,_,_,o,_,_,e,ex,_⟩:=I.hok p _ hk
     exact ⟨o,e,ex⟩
    ·obtain ⟨_,_,_,_,o,_,_,e,ex,_⟩:=I.hok p _ hk
     exact ⟨o,e,ex⟩
   obtain ⟨o,e,ex⟩:=z
   refine ⟨⟨o,e,ex.1⟩,fun a e2=>?_⟩
   cases e2
   exact ⟨o,e,ex.2.1⟩
  ·obtain ⟨o,_,_,_,e,ex,_⟩:=I.hok p _ hk
   refine ⟨⟨o,e,ex.1⟩,fun a e2=>?_⟩
   cases e2
   exact ⟨o,e,ex.2.1⟩
 | _=>exact False.elim ty
def tBM0 (K:PySem.W.Frag) (T:String) (r:V→List V→Hp→VK→Prop) (to:TE):TE:=fun σ H Q=>to σ H fun x H1=>tyV K T x H1∧r x [] H1 Q
def tBM (K:PySem.W.Frag) (T:String) (r:V→List V→Hp→VK→Prop) (to:TE) (t:TA):TE:=fun σ H Q=>to σ H fun x H1=>tyV K T x H1∧t σ H1 fun xs H2=>r x xs H2 Q
variable {o e:Expr} {es:List Expr} {to:TE} {t:TA} {name:Str} {apos cpos:Pos} {T id:String} {r:V→List V→Hp→VK→Prop}
theorem pe_bm0 (pa:PlainAttrs T) (slot:Slot T name id) (hty:typeOf (.builtin id)=pure (.type "method_descriptor")) (hm:MtR X id r) (ho:PE X o to)
  (hbase:attributeBase o name X.env (eval o X.env)=eval o X.env:=by rfl) (hline:(apos.endLine == cpos.line)=true:=by rfl):PE X (.Call (.Attribute o name apos) [] [] cpos) (tBM0 X.K T r to):=by
 intro pins s σ H Q I h
 refine wpAny_Call_method0_late hbase hline (thn (ho pins s σ H _ I h) fun v s1 ⟨x,H1,I1,r1,ty,q1⟩=>?_)
 obtain ⟨h1,h2⟩:=l0 I1 r1 ty
 exact ⟨T,id,pa,slot,hty,h1,h2,Calls.callWith_builtin rfl (PySem.evalArgs_none (hm pins s1 σ H1 x [] v [] Q I1 r1 .nil q1))⟩
theorem pe_bm (pa:PlainAttrs T) (slot:Slot T name id) (hty:typeOf (.builtin id)=pure (.type "method_descriptor")) (hm:MtR X id r) (ho:PE X o to) (ha:PA X (e::es) t)
  (hbase:attributeBase o name X.env (eval o X.env)=eval o X.env:=by rfl)
  (hfew:((backTo cpos (starEach (e::es) X.env)).all (fun x=>!x.1) && (backToKw cpos (keywordEach [] X.env)).all (fun x=>x.1.isSome)
   && decide ((e::es).length+([]:List Keyword).length+(if ([]:List Keyword).isEmpty then 0 else 1)<30))=true:=by rfl)
  (hline:(apos.endLine == cpos.line)=true:=by rfl) (hs:starEach (e::es) X.env=(false,eval e X.env)::starEach es X.env:=by rfl) (hplain:(backTo cpos (starEach es X.env)).any (·.1)=false:=by rfl) :
  PE X (.Call (.Attribute o name apos) (e::es) [] cpos) (tBM X.K T r to t):=by
 intro pins s σ H Q I h
 refine wpAny_Call_method_late hbase hfew hline rfl (thn (ho pins s σ H _ I h) fun v s1 ⟨x,H1,I1,r1,ty,q1⟩=>?_)
 obtain ⟨h1,h2⟩:=l0 I1 r1 ty
 refine ⟨T,id,pa,slot,hty,h1,h2,?_⟩
 have hA:=ha cpos pins s1 σ H1 _ I1 q1
 rw[hs] at hA ⊢
 refine Calls.callWith_builtin (by show (false || (backTo cpos (starEach es X.env)).any (·.1))=false;rw[hplain] <;> rfl) (Calls.evalArgs_plain ?_)
 exact thn hA fun us s2 ⟨vs,H2,I2,r2,q2⟩=>hm pins s2 σ H2 x vs v us Q I2 r1 r2 q2
end
def MtM (X:Cx) (id:String) (r:V→List V→Hp→VK→Prop):Prop :=
 ∀(pins:List (Addr × Obj)) (s:Shared) (σ:St) (H:Hp) (x:V) (xs:List V) (v:Value) (us:List Value) (Q:VK),Inv X pins σ H s→RelV x v→Vals xs us→r x xs H Q →
  wpAny (model X.prog X.w) X.A (call (.builtin id) (v::us)) (EP X pins σ Q) X.xe s
theorem Vals.one:∀{x:V} {us:List Value},Vals [x] us→∃u,us=[u]∧RelV x u
 | _,_,.cons r .nil=>⟨_,rfl,r⟩
theorem Vals.zero:∀{us:List Value},Vals [] us→us=[]
 | _,.nil=>rfl
theorem Vals.rep {xs:List V} {us:List Value} (h:Vals xs us):∀k:Nat,Vals (List.replicate k xs).flatten (List.replicate k us).flatten
 | 0=>.nil
 | k+1=>by
  rw[List.replicate_succ,List.replicate_succ,List.flatten_cons,List.flatten_cons]
  exact Vals.append h (Vals.rep h k)
theorem iH (its:List Value):∀(k:Nat) (acc:List Value),
  List.foldl (fun x1 x2=>x1++x2) acc.toArray (List.replicate k its.toArray)=(acc++(List.replicate k its).flatten).toArray
 | 0,acc=>by simp
 | k+1,acc=>by
  have e:acc.toArray++its.toArray=(acc++its).toArray:=by simp
  have e2:(acc++its)++(List.replicate k its).flatten=acc++(List.replicate (k+1) its).flatten:=by
   rw[List.replicate_succ,List.flatten_cons,List.append_assoc]
  rw[←e2,←iH its k (acc++its),←e,List.replicate_succ,List.foldl_cons]
section
variable {X:Cx} {pins:List (Addr × Obj)} {σ:St} {H:Hp} {s:Shared} {l b:Addr} {xs ys zs:List V}
theorem Inv.lset {its its':List Value} {n:Nat} {f:Array Value→Array Value} {t':Nat} (I:Inv X pins σ H s) (hH:H l=some (.lst xs))
  (e:s.heap.get? l=some { cls:=.type "list",data:=.seq its.toArray n}) (hf:f its.toArray=its'.toArray) (hv:Vals ys its') (hz:ys.length≤sizeLine) :
  Inv X pins σ (upd H l (.lst ys)) { s with heap:=s.heap.update l (Obj.mapSeq f),toks:=t'}:=by
 have q:=PySem.IsL.update e f
 rw[hf] at q
 refine I.write (x:=l) (e:=l) (by rw[hH];exact trivial) (.inl rfl) (fun b' u hb hu=>(Heap.get?_update_other s.heap (Obj.mapSeq f) (Ne.symm hb)).trans hu) ⟨_,q⟩ ?_
 exact ⟨hz,its',_,hv,q⟩
theorem Inv.lnew {its:List Value} {t':Nat} (I:Inv X pins σ H s) (hv:Vals ys its) (hz:ys.length≤sizeLine) :
  Inv X pins σ (upd H s.heap.objs.size (.lst ys)) { s with heap:=s.heap.push { cls:=.type "list",data:=.seq its.toArray},toks:=t'} :=
 I.laid (fun _ _ q=>Heap.get?_push_of_some _ q) (Nat.le_refl _) ⟨hz,its,0,hv,Heap.get?_push_size _ rfl⟩
theorem Inv.fresh (I:Inv X pins σ H s):H s.heap.objs.size=none:=I.hok.fresh (Nat.le_refl _)
theorem Inv.lstM (I:Inv X pins σ H s) (hH:H l=some (.lst xs)):xs.length≤sizeLine∧∃(its:List Value) (n:Nat),Vals xs its∧xs.length=its.length∧s.heap.get? l=some { cls:=.type "list",data:=.seq its.toArray n}:=by
 obtain ⟨z,its,n,r,e⟩:=I.hok l _ hH
 exact ⟨z,its,n,r,r.length,e⟩
theorem nP {n:Nat} (h:n≤sizeLine):Builtin.List.listTooLong n=false:=by
 unfold Builtin.List.listTooLong
 exact decide_eq_false (by omega)
end
section
variable {X:Cx}
def rAppend:V→List V→Hp→VK→Prop:=fun x vs H Q=>∃l xs y,x=.ref l∧vs=[y]∧H l=some (.lst xs)∧xs.length<sizeLine∧Q .non (upd H l (.lst (xs++[y])))
theorem iB:MtM X "list.append" rAppend:=by
 intro pins s σ H x vs v us Q I rx rv h
 obtain ⟨l,xs,y,rfl,rfl,hH,hz,q⟩:=h
 cases rx
 obtain ⟨u,rfl,ru⟩:=rv.one
 obtain ⟨z,its,n,r,hl,e⟩:=I.lstM hH
 refine call_meets F.slot_list_append ⟨_,e,rfl⟩ F.entry_list_append (F.args_list_append_2 _ _) (PySem.list_append l its.toArray n u (by rw[List.size_toArray];omega)) ⟨e,?_⟩
 refine ⟨.non,_,I.lset (its':=its++[u]) hH e (by simp) (r.append (.cons ru .nil)) ?_,rfl,q⟩
 rw[List.length_append,List.length_singleton]
 omega
def rClear:V→List V→Hp→VK→Prop:=fun x vs H Q=>∃l xs,x=.ref l∧vs=[]∧H l=some (.lst xs)∧Q .non (upd H l (.lst []))
theorem nX:MtM X "list.clear" rClear:=by
 intro pins s σ H x vs v us Q I rx rv h
 obtain ⟨l,xs,rfl,rfl,hH,q⟩:=h
 cases rx
 have hus:=rv.zero
 subst hus
 obtain ⟨z,its,n,r,hl,e⟩:=I.lstM hH
 refine call_meets F.slot_list_clear ⟨_,e,rfl⟩ F.entry_list_clear (F.args_list_clear_1 _) (AutoSeq1.list_clear_list_0 l its.toArray n (by rw[List.size_toArray];omega)) ⟨e,?_⟩
 exact ⟨.non,_,I.lset (its':=[]) (ys:=[]) hH e rfl .nil (Nat.zero_le _),rfl,q⟩
def rCat:R2:=fun x y H Q=>∃l b xs zs,x=.ref l∧y=.ref b∧H l=some (.lst xs)∧H b=some (.lst zs)∧xs.length+zs.length≤sizeLine∧∀p,H p=none→Q (.ref p) (upd H p (.lst (xs++zs)))
theorem op_cat:OpR X (binaryOp .Add) rCat:=by
 intro pins s σ H x y v u Q I rx ry h
 obtain ⟨l,b,xs,zs,rfl,rfl,hH,hB,hz,q⟩:=h
 cases rx
 cases ry
 obtain ⟨z,its,n,r,hl,e⟩:=I.lstM hH
 obtain ⟨z2,its2,n2,r2,hl2,e2⟩:=I.lstM hB
 refine PySem.P.add_list e e2 ?_ (by rw[List.size_toArray,List.size_toArray];omega)
 have ea:its.toArray++its2.toArray=(its++its2).toArray:=by simp
 rw[ea]
 exact ⟨.ref _,_,I.lnew (t':=s.toks) (r.append r2) (by rw[List.length_append];omega),rfl,q _ I.fresh⟩
def rRep:R2:=fun x y H Q=>∃l k xs,x=.ref l∧y=.int k∧H l=some (.lst xs) ∧ -(2 ^ 63)≤k∧k<2 ^ 63∧xs.length * k.toNat≤sizeLine ∧
 ∀p,H p=none→Q (.ref p) (upd H p (.lst (List.replicate k.toNat xs).flatten))
theorem kG {α:Type} (xs:List α) (k:Nat):(List.replicate k xs).flatten.length=k * xs.length:=by
 induction k with
 | zero=>simp
 | succ k ih=>rw[List.replicate_succ,List.flatten_cons,List.length_append,ih,Nat.succ_mul,Nat.add_comm]
theorem op_rep:OpR X (binaryOp .Mult) rRep:=by
 intro pins s σ H x y v u Q I rx ry h
 obtain ⟨l,k,xs,rfl,rfl,hH,h1,h2,hz,q⟩:=h
 cases rx
 obtain ⟨t,rfl⟩:=ry
 obtain ⟨z,its,n,r,hl,e⟩:=I.lstM hH
 have hlen:its.toArray.size * k.toNat≤sizeLine:=by rw[List.size_toArray,←hl];exact hz
 have hcap:¬its.toArray.size * k.toNat>(2 ^ 63 - 1) / 8:=by
  have:(sizeLine:Nat)≤(2 ^ 63 - 1) / 8:=by decide
  omega
 have hfit:¬(!Builtin.List.listFitsIndex k)=true:=by
  rw[fitsIndex_both h1 h2]
  exact Bool.false_ne_true
 have hlong:¬Builtin.List.listTooLong (its.toArray.size * k.toNat)=true:=by
  rw[nP hlen]
  exact Bool.false_ne_true
 have hnew:List.foldl (fun x1 x2=>x1++x2) #[] (List.replicate (if its.toArray.isEmpty=true then 0 else k.toNat) its.toArray)=(List.replicate k.toNat its).flatten.toArray:=by
  have f0:∀m:Nat,List.foldl (fun x1 x2=>x1++x2) #[] (List.replicate m its.toArray)=(List.replicate m its).flatten.toArray:=fun m=>by
   have:=iH its m []
   rw[List.nil_append] at this
   exact this
  rw[f0]
  cases its with
  | nil=>simp
  | cons a r'=>rw[if_neg (by simp)]
 refine wpAny_binaryOp_repeat_ref (T:="list") (U:="int") (by decide) ⟨_,e,rfl⟩ (fun s'=>typeIs_int s' k t) noFill_list_mul F.fills_int_mul F.slot_int_rmul repeat_list F.slot_int_index.lookup
  (call_meets F.slot_int_rmul (typeIs_int s k t) F.entry_int_rmul (F.args_int_rmul_2 _ _) (int___rmul___int_list k t l its.toArray n)
   ⟨e,rfl,⟨_,e,rfl⟩,call_meets F.slot_list_mul ⟨_,e,rfl⟩ F.entry_list_mul (F.args_list_mul_2 _ _) (AutoListH.list___mul___list_int_3 l its.toArray n k t hfit hcap hlong) ⟨e,?_⟩⟩)
 rw[hnew]
 exact ⟨.ref _,_,I.lnew (t':=s.toks) (r.rep k.toNat) (by rw[kG,Nat.mul_comm];exact hz),rfl,q _ I.fresh⟩
end
section
variable {prog:Program} {w:World} {A:Around} {E:Value→Shared→Prop} {s:Shared}
end
section
variable {X:Cx}
end
end L2
namespace Att
open PySem PySem.W PySem.Calls PyProof.Rows
theorem hZ {P:Params} {h:Heap}:∀(ns:List Int) (vs:List Value),WellAll P h vs (ns.map WData.int)→IntsAre vs ns:=by
 intro ns
 induction ns with
 | nil =>
  intro vs w
  rw[List.map_nil] at w
  cases w
  exact .nil
 | cons n ns ih =>
  intro vs w
  rw[List.map_cons] at w
  cases w with
  | cons a b =>
   cases a
   exact .cons _ _ (ih _ b)
theorem m5 {l:OpenLaw} {n:Nat} (hn:l.most=some n) {P:Params} {h:Heap} {args:List WData} {vals:List Value}
  (hpre:l.row.toRowW.claim.pre args=true) (hwl:WellAll P h vals args) :
  ∃a vs ns,vals=[Value.ref a]∧args=[WData.list (ns.map WData.int)]∧h.get? a=some { cls:=.type "list",data:=.seq vs.toArray}∧IntsAre vs ns∧ns.length≤n:=by
 have hsh:WShape.hasAll [] args [.list .int]=true:=(pre_splitW hpre).1
 have hc:l.pre.holds [] { args:=args}=true:=(pre_splitW hpre).2
 obtain ⟨d,r,rfl,h1,h2⟩:=hasAllW_cons hsh
 obtain rfl:=hasAllW_nil h2
 obtain ⟨xs,rfl,h3⟩:=hasW_list h1
 obtain ⟨ns,rfl⟩:=items_int h3
 have hlen:ns.length≤n:=by
  unfold OpenLaw.pre at hc
  have h4:(WTm.not (.lt (.lit (.int (n:Int))) (.len (.arg 0)))).holds [] { args:=[.list (ns.map .int)]}=true:=by
   have h4:=(holds_andW hc).1
   rw[hn] at h4
   exact h4
  have h5:=condW_of h4 (w_not (w_lt w_lit (w_len_list (w_arg rfl))))
  rw[List.length_map] at h5
  refine Nat.le_of_not_lt fun q=>?_
  have q':(n:Int)<((ns.length:Nat):Int):=by omega
  first
   | (rw[decide_eq_true q'] at h5;exact absurd h5 (by decide))
   | (simp at h5;omega)
 cases hwl with
 | cons w1 w2 =>
  cases w2
  cases w1 with
  | list ho hall=>exact ⟨_,_,ns,rfl,rfl,ho,hZ ns _ hall,hlen⟩
theorem mQ (l:OpenLaw) (args:List WData):l.row.toRowW.claim.post args (.bool true) args=true :=
 postW_of (r:=l.row.toRowW) (X:=(true == true))
  (show WShape.has [] (.bool true) .bool=true by first | rfl | decide | simp[WShape.has,WShape.arms,WShape.armsAll])
  (show (WTm.eq .res (.lit (.bool true))).value [] { args:=args,res:=some (.bool true),after:=args}=some (.bool (true == true)) from w_eq_bool (w_res rfl) w_lit) rfl
theorem kx {l:OpenLaw} {n:Nat} {q:Program} {loose:List Str} {XP:(Str→Option Value)→Heap→Prop} {YP:World→Heap→Prop} {d:DefRec}
  (hn:l.most=some n) (hdf:d.params.defaults=[])
  (call:∀(w:World) (s₀ s₁:Shared) (mg mb:Str→Option Value) (fa:Addr) (o:Obj) (pm cd doc:Value) (a:Addr) (vs:List Value) (ns:List Int),
   Ground q loose [] XP w s₀ mg mb s₁.heap→YP w s₁.heap →
   s₁.heap.get? fa=some o→o.data=.func (docDef d.name d.params d.body d.scope pm cd doc)→s₁.heap.CodeRec cd d.name→mg d.name=some (.ref fa) →
   s₁.heap.get? a=some { cls:=.type "list",data:=.seq vs.toArray}→IntsAre vs ns→ns.length≤n→s₁.gens=#[] →
   codeAny (model l.prog w) callerA (.call (.ref fa) ⟨[.ref a],[]⟩) (fun r s'=>r=.ok (.ret (.bool true))∧OldK s₁.heap s'.heap∧s'.os=s₁.os∧AllBare s'.gens) s₁) :
  WalkO q loose XP YP l.row.toRowW d [] (fun f vs=>PySem.call f vs):=by
 intro w s₀ s₁ mg mb G Y fa o pm cd doc dV kV ho hd hcd hD hmg hg args vals as hpre hlay hrd hwl hlo
 obtain rfl:dV=.none:=Dflts.none hD hdf
 obtain rfl:kV=.none:=Dflts.noKw hD
 obtain ⟨a,vs,ns,rfl,rfl,hobj,hints,hlen⟩:=m5 hn hpre hwl
 refine enter_call (codeAny_mono (call w s₀ s₁ mg mb fa o pm cd doc a vs ns G Y ho (fd_plain hd) hcd hmg hobj hints hlen hg) fun r s' hq=>?_)
 obtain ⟨rfl,h2,h3,h4⟩:=hq
 exact ⟨.inl ⟨.bool true,.bool true,[],rfl,fun _=>rfl,.bool true,mQ l _,fun _=>⟨List.Pairwise.nil,fun _ hm=>(nomatch hm)⟩⟩,h2,h3,h4⟩
section
variable {prog:Program} {w:World} {A:Around} {E:Value→Shared→Prop} {s:Shared} {K:Frag}
end
end Att
namespace L2
open PySem PySem.Spec PyProof.Rows
theorem iG:∀{vs:List Value} {ns:List Int},IntsAre vs ns→Vals (ns.map V.int) vs
 | _,_,.nil=>.nil
 | _,_,.cons n t h=>.cons ⟨t,rfl⟩ (iG h)
def Only (H:Hp):Prop:=∀b,H b=none∨∃o xs,H b=some (.frz o (.lst xs))
theorem nF {P:Program} {w:World} {K:PySem.W.Frag} {mg mb:Str→Option Value} {CX:CXT} {k:Nat} {fa a:Addr} {fd:FuncData} {x:Str} {sp:Sp} {s₁:Shared} {vs:List Value} {ns:List Int}
  (KX:K.In s₁.heap) (hns:s₁.heap.Ns mainGlobals mg) (hb:s₁.heap.Ns builtinsNs mb) (hbb:∀x:Str,x≠"__name__"→mb x=bootBuiltins x) (hlim:s₁.heap.NoLimit) (hg:s₁.gens=#[])
  (ha:s₁.heap.get? a=some { cls:=.type "list",data:=.seq vs.toArray}) (hi:IntsAre vs ns) (hl:ns.length≤sizeLine) (hr:Room k callerA)
  (F:∀base:Heap,K.In base→base.Ns mainGlobals mg→FnOk P w K mg base CX k fa fd [x] sp) (hbind:∀(s:Shared) (u:Value),BindsTo s fd ⟨[u],[]⟩ [(x,u)])
  (hsp:∀H:Hp,Only H→SqL K H a (ns.map V.int)→sp [.ref a] H (fun v _=>v=.bl true) fun _ _ _=>False)
  (hCX:∀H e s',CX [] H s₁ (fun _ _ _=>False) e s'→False) :
  codeAny (model P w) callerA (.call (.ref fa) ⟨[.ref a],[]⟩) (fun r s'=>r=.ok (.ret (.bool true))∧OldK s₁.heap s'.heap∧s'.os=s₁.os∧AllBare s'.gens) s₁:=by
 have rv:=iG hi
 have lenV:=hi.length
 have core:∀H:Hp,Only H→SqL K H a (ns.map V.int)→HOk P w H s₁.heap→(∀b,H b≠none→b=a)→(H a≠none→K.lookup a=none) →
   codeAny (model P w) callerA (.call (.ref fa) ⟨[.ref a],[]⟩) (fun r s'=>r=.ok (.ret (.bool true))∧OldK s₁.heap s'.heap∧s'.os=s₁.os∧AllBare s'.gens) s₁:=by
  intro H hO hS hok hA hK
  have base_of:∀{b:Addr} {o:Obj},s₁.heap.get? b=some o→H b=none→(hidT s₁.heap H).get? b=some o:=fun e n=>nR e n
  have noA:∀{b:Addr} {o:Obj} {es:Array DictEntry} {ep:Nat},s₁.heap.get? b=some o→o.data=.dict es ep→H b=none:=fun {b o es ep} e d=>by
   cases q:H b with
   | none=>rfl
   | some u =>
    have e':b=a:=hA b (by rw[q];simp)
    subst e'
    rw[ha] at e;cases e
    have d':Data.seq vs.toArray _=Data.dict es ep:=d
    cases d'
  have nsK:∀{b:Addr} {m:Str→Option Value},s₁.heap.Ns b m→(hidT s₁.heap H).Ns b m:=fun {b m} ⟨o,es,ep,e,d,r⟩=>⟨o,es,ep,base_of e (noA e d),d,r⟩
  have hKb:K.In (hidT s₁.heap H):=fun b o e=>base_of (KX b o e) (by
   cases q:H b with
   | none=>rfl
   | some u =>
    have e':b=a:=hA b (by rw[q];simp)
    subst e'
    rw[hK (by rw[q];simp)] at e;cases e)
  have hM:Mod K mg (hidT s₁.heap H):=⟨hKb,nsK hns,⟨mb,nsK hb,hbb⟩,let ⟨mc,h1,h2⟩:=hlim;⟨mc,nsK h1,h2⟩⟩
  have e0:Env0 P w K mg (hidT s₁.heap H) callerA [] s₁ H:=⟨rfl,hM,fun b o e=>of_hidT e,Nat.le_of_eq (mx _ _),trivial,fun b hb=>absurd (show b∈([]:List Addr) from hb) (by simp),hok,.of_eq hg⟩
  refine codeAny_mono ((F _ hKb (nsK hns)).run callerA [] s₁ H ⟨[.ref a],[]⟩ [.ref a] [.ref a] _ _ hr e0 (hbind s₁ (.ref a)) (.cons rfl .nil) (hsp H hO hS)) fun r s' h=>?_
  cases r with
  | error e=>exact (hCX H e s' h).elim
  | ok fl =>
   cases fl with
   | next=>exact False.elim h
   | brk=>exact False.elim h
   | cont=>exact False.elim h
   | ret u =>
    obtain ⟨v,H',os,bare,un,hok',r',q⟩:=h
    have q':v=.bl true:=q
    subst q'
    obtain rfl:u=Value.bool true:=r'
    refine ⟨rfl,OldK.of_keep fun b o e=>?_,os,bare⟩
    cases q:H b with
    | none=>exact un.keep b o e q (by intro z;exact absurd (show b∈([]:List Addr) from z) (by simp)) (by simp)
    | some u =>
     rcases hO b with z|⟨ob,xs,z⟩
     ·rw[q] at z;cases z
     ·have z2:=un.frzs b ob _ z
      obtain ⟨e1,_⟩:=hok b _ z
      obtain ⟨e2,_⟩:=hok' b _ z2
      rw[e] at e1;cases e1
      exact e2
 cases hk:K.lookup a with
 | some o =>
  have e:=KX a o hk
  rw[ha] at e
  cases e
  refine core (fun _=>none) (fun _=>.inl rfl) (.inr ⟨_,vs.toArray,_,hk,rfl,rfl,rfl,by rw[List.size_toArray,lenV];exact hl,by simpa using rv⟩) (fun b u z=>by have z':(none:Option HO)=some u:=z;cases z') (fun b z=>absurd rfl z) fun z=>absurd rfl z
 | none =>
  refine core (fun b=>if b=a then some (.frz { cls:=.type "list",data:=.seq vs.toArray} (.lst (ns.map V.int))) else none) (fun b=>?_) (.inl (.inr ⟨{ cls:=.type "list",data:=.seq vs.toArray},if_pos rfl⟩)) (fun b u z=>?_) (fun b z=>?_) fun _=>hk
  ·by_cases hb:b=a
   ·exact .inr ⟨_,_,if_pos hb⟩
   ·exact .inl (if_neg hb)
  ·by_cases hb:b=a
   ·have z':=(if_pos hb).symm.trans z
    cases z'
    subst hb
    exact ⟨ha,by rw[List.length_map];exact hl,vs,_,rv,ha⟩
   ·have z':=(if_neg hb).symm.trans z
    cases z'
  ·by_cases hb:b=a
   ·exact hb
   ·exact absurd (if_neg hb) z
abbrev KOf {K:PySem.W.Frag} {h:Heap} (_:K.In h):PySem.W.Frag:=K
theorem walk_of {l:PySem.W.OpenLaw} {n k:Nat} {q:Program} {loose:List Str} {XP:(Str→Option Value)→Heap→Prop} {YP:World→Heap→Prop} {d:DefRec} {K:Params→PySem.W.Frag} {CX:World→CXT} {sp:World→Sp} {x:Str}
  (hn:l.most=some n) (hn2:n≤sizeLine) (hdf:d.params.defaults=[]) (hr:Room k callerA)
  (hY:∀(w:World) (h:Heap),YP w h→(K w.params).In h)
  (F:∀(w:World) (mg:Str→Option Value) (fa:Addr) (h:Heap),(K w.params).In h→h.Ns mainGlobals mg→mg d.name=some (.ref fa) →
   ∃fd:FuncData,(∀(s:Shared) (u:Value),BindsTo s fd ⟨[u],[]⟩ [(x,u)]) ∧
    ∀base:Heap,(K w.params).In base→base.Ns mainGlobals mg→FnOk l.prog w (K w.params) mg base (CX w) k fa fd [x] (sp w))
  (hsp:∀(w:World) (H:Hp) (a:Addr) (ns:List Int),ns.length≤n→Only H→SqL (K w.params) H a (ns.map V.int)→sp w [.ref a] H (fun v _=>v=.bl true) fun _ _ _=>False)
  (hCX:∀(w:World) (H:Hp) (s:Shared) (e:Value) (s':Shared),CX w [] H s (fun _ _ _=>False) e s'→False) :
  PySem.W.WalkO q loose XP YP l.row.toRowW d [] (fun f vs=>PySem.call f vs):=by
 refine Att.kx hn hdf fun w s₀ s₁ mg mb fa o pm cd doc a vs ns G Y ho hd hcd hmg hobj hints hlen hg=>?_
 have KX:=hY w _ Y
 obtain ⟨fd,hb,hF⟩:=F w mg fa _ KX G.T.g hmg
 exact nF KX G.T.g G.T.b G.T.builtins G.T.nolimit hg hobj hints (Nat.le_trans hlen hn2) hr hF hb (fun H hO hS=>hsp w H a ns hlen hO hS) fun H e s'=>hCX w H s₁ e s'
def dJ (s:Stmt):Arguments:=match s with
 | .FunctionDef _ a _ _ _ _ _ _ _ _=>a
 | _=>{ posonlyargs:=[],args:=[],vararg:=none,kwonlyargs:=[],kw_defaults:=[],kwarg:=none,defaults:=[]}
def au (s:Stmt):List Stmt:=match s with
 | .FunctionDef _ _ b _ _ _ _ _ _ _=>b
 | _=>[]
def ai (s:Stmt):Scope:=match s with
 | .FunctionDef _ _ _ _ _ _ sc _ _ _=>sc
 | _=>{ kind:=.function,names:=[],isGenerator:=false,isCoroutine:=false}
structure Fun (K:PySem.W.Frag) (x qual:Str) (st:Stmt) (f:Addr) (fd:FuncData):Prop where
 ex:∃(oc:Value) (od:Option Addr) (kV doc pm:Value) (an:Option Addr) (cdv ct:Value) (osl:Array (Option Value)),
  fd=PySem.W.fnOf x qual (dJ st) (au st) (ai st) .none kV doc pm an cdv ct∧K.lookup f=some ⟨oc,od,.func fd,osl⟩∧PySem.W.codeIn K cdv qual=true
 kp:PySem.W.keepIn K (.ref f)=true
section
variable {P:Program} {w:World} {K:PySem.W.Frag} {mg:Str→Option Value} {base:Heap}
theorem Fun.binds {x qual:Str} {st:Stmt} {f:Addr} {fd:FuncData} {ps:List Str} (F:Fun K x qual st f fd)
  (h:∀(kV doc pm:Value) (an:Option Addr) (cdv ct:Value) (us:List Value),us.length=ps.length→bindArgs (PySem.W.fnOf x qual (dJ st) (au st) (ai st) .none kV doc pm an cdv ct) ⟨us,[]⟩=pure (ps.zip us)):gO K fd ps []:=by
 obtain ⟨oc,od,kV,doc,pm,an,cdv,ct,osl,rfl,lk,hcd⟩:=F.ex
 exact .all (h kV doc pm an cdv ct)
theorem fun_mk {x qual:Str} {st:Stmt} {f:Addr} {oc:Value} {od an:Option Addr} {osl:Array (Option Value)} {kV doc pm cdv ct:Value} (l:K.lookup f=some ⟨oc,od,.func (PySem.W.fnOf x qual (dJ st) (au st) (ai st) .none kV doc pm an cdv ct),osl⟩)
  (c:PySem.W.codeIn K cdv qual=true) (k:PySem.W.keepIn K (.ref f)=true):Fun K x qual st f (PySem.W.fnOf x qual (dJ st) (au st) (ai st) .none kV doc pm an cdv ct):=⟨⟨oc,od,kV,doc,pm,an,cdv,ct,osl,rfl,l,c⟩,k⟩
end
section
variable {X:Cx}
end
end L2
namespace MM
open PySem PySem.Spec PyProof.Rows L2
inductive PV where
 | non | bl (b:Bool) | int (i:Int) | str (x:Str) | tup (xs:List PV) | frl (xs:List PV) | loc (n:Nat)
structure MExc where
 cls:Str
 fs:List (Str × PV):=[]
inductive MO where
 | lst (xs:List PV)
 | dic (kvs:List (PV × PV))
 | exc (x:MExc)
abbrev MH:=List MO
abbrev PSt:=List (Option PV)
inductive Out (α:Type) where
 | ok (a:α) (h:MH)
 | exc (x:MExc) (h:MH)
 | bad
def Out.bind {α β:Type} (o:Out α) (f:α→MH→Out β):Out β:=match o with
 | .ok a h=>f a h
 | .exc x h=>.exc x h
 | .bad=>.bad
@[simp] theorem Out.bind_ok {α β:Type} (a:α) (h:MH) (f:α→MH→Out β):(Out.ok a h).bind f=f a h:=rfl
@[simp] theorem Out.bind_exc {α β:Type} (x:MExc) (h:MH) (f:α→MH→Out β):(Out.exc x h).bind f=.exc x h:=rfl
@[simp] theorem Out.bind_bad {α β:Type} (f:α→MH→Out β):(Out.bad:Out α).bind f=.bad:=rfl
inductive SOut where
 | nx (σ:PSt) (h:MH)
 | rt (v:PV) (h:MH)
 | bk (σ:PSt) (h:MH)
 | ct (σ:PSt) (h:MH)
 | exc (x:MExc) (σ:PSt) (h:MH)
 | rse (x:MExc) (σ:PSt) (h:MH)
 | bad
def Out.ne {α:Type} (o:Out α):Out α:=match o with
 | .exc _ _=>.bad
 | o=>o
@[simp] theorem Out.ne_ok {α:Type} (a:α) (h:MH):(Out.ok a h).ne=.ok a h:=rfl
@[simp] theorem Out.ne_bad {α:Type}:(Out.bad:Out α).ne=.bad:=rfl
@[simp] theorem Out.ne_ne {α:Type} (o:Out α):o.ne.ne=o.ne:=by cases o <;> rfl
def SqF (K:PySem.W.Frag) (H:Hp) (a:Addr) (ys:List V):Prop :=
 (∃o,H a=some (.frz o (.lst ys))) ∨
  ∃(o:Obj) (its:Array Value) (n:Nat),K.lookup a=some o∧o.cls=.type "list"∧o.dict=none∧o.data=.seq its n∧its.size≤sizeLine∧Vals ys its.toList
theorem SqF.sq {K:PySem.W.Frag} {H:Hp} {a:Addr} {ys:List V} (h:SqF K H a ys):SqL K H a ys:=by
 rcases h with h|h
 ·exact .inl (.inr h)
 ·exact .inr h
mutual
inductive RP (K:PySem.W.Frag) (ρ:List Addr) (H:Hp):PV→V→Prop where
 | non:RP K ρ H .non .non
 | bl (b:Bool):RP K ρ H (.bl b) (.bl b)
 | int (i:Int):RP K ρ H (.int i) (.int i)
 | str (x:Str):RP K ρ H (.str x) (.str x)
 | tup {xs:List PV} {a:Addr} {ys:List V} (s:SqT K H a ys) (r:RPs K ρ H xs ys):RP K ρ H (.tup xs) (.ref a)
 | frl {xs:List PV} {a:Addr} {ys:List V} (s:SqF K H a ys) (r:RPs K ρ H xs ys):RP K ρ H (.frl xs) (.ref a)
 | loc {n:Nat} {a:Addr} (e:ρ[n]?=some a):RP K ρ H (.loc n) (.ref a)
inductive RPs (K:PySem.W.Frag) (ρ:List Addr) (H:Hp):List PV→List V→Prop where
 | nil:RPs K ρ H [] []
 | cons {x:PV} {y:V} {xs:List PV} {ys:List V} (r:RP K ρ H x y) (t:RPs K ρ H xs ys):RPs K ρ H (x::xs) (y::ys)
end
structure Le (ρ:List Addr) (H:Hp) (ρ':List Addr) (H':Hp):Prop where
 pre:∃m,ρ'=ρ++m
 tup:∀a xs,H a=some (.tup xs)→H' a=some (.tup xs)
 frz:∀a o u,H a=some (.frz o u)→H' a=some (.frz o u)
theorem Le.refl (ρ:List Addr) (H:Hp):Le ρ H ρ H:=⟨⟨[],by simp⟩,fun _ _ h=>h,fun _ _ _ h=>h⟩
theorem Le.trans {ρ ρ1 ρ2:List Addr} {H H1 H2:Hp} (a:Le ρ H ρ1 H1) (b:Le ρ1 H1 ρ2 H2):Le ρ H ρ2 H2:=by
 obtain ⟨m,e⟩:=a.pre
 obtain ⟨m',e'⟩:=b.pre
 exact ⟨⟨m++m',by rw[e',e,List.append_assoc]⟩,fun c xs h=>b.tup c xs (a.tup c xs h),fun c o u h=>b.frz c o u (a.frz c o u h)⟩
theorem Le.get {ρ ρ':List Addr} {H H':Hp} (l:Le ρ H ρ' H') {n:Nat} {a:Addr} (e:ρ[n]?=some a):ρ'[n]?=some a:=by
 obtain ⟨m,e'⟩:=l.pre
 rw[e',List.getElem?_append_left (List.getElem?_eq_some_iff.mp e).1];exact e
theorem Le.sqt {K:PySem.W.Frag} {ρ ρ':List Addr} {H H':Hp} (l:Le ρ H ρ' H') {a:Addr} {xs:List V} (h:SqT K H a xs):SqT K H' a xs:=by
 rcases h with (h|⟨o,h⟩)|h
 ·exact .inl (.inl (l.tup _ _ h))
 ·exact .inl (.inr ⟨o,l.frz _ _ _ h⟩)
 ·exact .inr h
theorem Le.sqf {K:PySem.W.Frag} {ρ ρ':List Addr} {H H':Hp} (l:Le ρ H ρ' H') {a:Addr} {xs:List V} (h:SqF K H a xs):SqF K H' a xs:=by
 rcases h with ⟨o,h⟩|h
 ·exact .inl ⟨o,l.frz _ _ _ h⟩
 ·exact .inr h
section
variable {K:PySem.W.Frag} {ρ ρ':List Addr} {H H':Hp}
mutual
theorem RP.le (l:Le ρ H ρ' H'):∀{x:PV} {y:V},RP K ρ H x y→RP K ρ' H' x y
 | _,_,.non=>.non
 | _,_,.bl b=>.bl b
 | _,_,.int i=>.int i
 | _,_,.str x=>.str x
 | _,_,.tup s r=>.tup (l.sqt s) (RPs.le l r)
 | _,_,.frl s r=>.frl (l.sqf s) (RPs.le l r)
 | _,_,.loc e=>.loc (l.get e)
theorem RPs.le (l:Le ρ H ρ' H'):∀{xs:List PV} {ys:List V},RPs K ρ H xs ys→RPs K ρ' H' xs ys
 | _,_,.nil=>.nil
 | _,_,.cons r t=>.cons (RP.le l r) (RPs.le l t)
end
theorem RPs.length:∀{xs:List PV} {ys:List V},RPs K ρ H xs ys→xs.length=ys.length
 | _,_,.nil=>rfl
 | _,_,.cons _ t=>congrArg (·+1) (RPs.length t)
theorem RPs.get:∀{xs:List PV} {ys:List V} {i:Nat} {x:PV},RPs K ρ H xs ys→xs[i]?=some x→∃y,ys[i]?=some y∧RP K ρ H x y
 | _,_,_,_,.nil,e=>by simp at e
 | _,_,0,_,.cons r _,e=>by simp at e;subst e;exact ⟨_,rfl,r⟩
 | _,_,i+1,x,.cons _ t,e=>by
  obtain ⟨u,h1,h2⟩:=RPs.get (i:=i) (x:=x) t (by simpa using e)
  exact ⟨u,by simpa using h1,h2⟩
theorem RPs.set {x:PV} {u:V} (r:RP K ρ H x u):∀{xs:List PV} {us:List V} (i:Nat),RPs K ρ H xs us→RPs K ρ H (xs.set i x) (us.set i u)
 | _,_,_,.nil=>.nil
 | _,_,0,.cons _ t=>.cons r t
 | _,_,i+1,.cons q t=>.cons q (RPs.set r i t)
theorem RPs.append:∀{xs ys:List PV} {us ws:List V},RPs K ρ H xs us→RPs K ρ H ys ws→RPs K ρ H (xs++ys) (us++ws)
 | _,_,_,_,.nil,s=>s
 | _,_,_,_,.cons r t,s=>.cons r (RPs.append t s)
theorem RPs.ints:∀(ns:List Int),RPs K ρ H (ns.map PV.int) (ns.map V.int)
 | []=>.nil
 | n::r=>.cons (.int n) (RPs.ints r)
end
def ExcAt (a C:Addr) (h:Heap):Prop:=∃o vs,h.get? a=some o∧o.cls=.ref C∧o.data=.fields vs
abbrev MGl:=Str→Option Value
def RO (K:PySem.W.Frag) (mg:MGl) (ρ:List Addr) (H:Hp) (a:Addr):MO→Option HO→Prop
 | .lst xs,oh=>∃ys,oh=some (.lst ys)∧RPs K ρ H xs ys
 | .dic kvs,oh=>kvs=[]∧oh=some (.dK [])
 | .exc x,oh=>x.fs=[]∧∃C,mg x.cls=some (.ref C)∧oh=some (.ext (ExcAt a C))
structure RH (K:PySem.W.Frag) (mg:MGl) (ρ:List Addr) (H:Hp) (h:MH):Prop where
 len:ρ.length=h.length
 nd:ρ.Nodup
 at':∀(n:Nat) (a:Addr) (o:MO),ρ[n]?=some a→h[n]?=some o→RO K mg ρ H a o (H a)
theorem RO.le {K:PySem.W.Frag} {mg:MGl} {ρ ρ':List Addr} {H H':Hp} {a:Addr} (l:Le ρ H ρ' H') {o:MO} {oh:Option HO} (r:RO K mg ρ H a o oh):RO K mg ρ' H' a o oh:=by
 cases o with
 | lst xs=>obtain ⟨ys,e,r⟩:=r;exact ⟨ys,e,r.le l⟩
 | dic kvs=>exact r
 | exc x=>exact r
theorem RO.some {K:PySem.W.Frag} {mg:MGl} {ρ:List Addr} {H:Hp} {a:Addr} {o:MO} {oh:Option HO} (r:RO K mg ρ H a o oh):oh≠none:=by
 cases o with
 | lst xs=>obtain ⟨ys,e,_⟩:=r;rw[e];simp
 | dic kvs=>obtain ⟨_,e⟩:=r;rw[e];simp
 | exc x=>obtain ⟨_,C,_,e⟩:=r;rw[e];simp
theorem RO.plain {K:PySem.W.Frag} {mg:MGl} {ρ:List Addr} {H:Hp} {a:Addr} {o:MO} {oh:Option HO} (r:RO K mg ρ H a o oh):(∀xs,oh≠Option.some (.tup xs))∧∀p u,oh≠Option.some (.frz p u):=by
 cases o with
 | lst xs=>obtain ⟨ys,e,_⟩:=r;rw[e];exact ⟨(fun _ z=>nomatch z),(fun _ _ z=>nomatch z)⟩
 | dic kvs=>obtain ⟨_,e⟩:=r;rw[e];exact ⟨(fun _ z=>nomatch z),(fun _ _ z=>nomatch z)⟩
 | exc x=>obtain ⟨_,C,_,e⟩:=r;rw[e];exact ⟨(fun _ z=>nomatch z),(fun _ _ z=>nomatch z)⟩
section
variable {K:PySem.W.Frag} {mg:MGl} {ρ:List Addr} {H:Hp} {h:MH}
theorem RH.obj (r:RH K mg ρ H h) {n:Nat} {a:Addr} (e:ρ[n]?=some a):∃o,h[n]?=some o∧RO K mg ρ H a o (H a):=by
 have hn:n<h.length:=by rw[←r.len];exact (List.getElem?_eq_some_iff.mp e).1
 exact ⟨h[n],by simp[hn],r.at' n a _ e (by simp[hn])⟩
theorem RH.new (r:RH K mg ρ H h) {p:Addr} (hp:H p=none) {o:MO} {ho:HO} (hn:RO K mg ρ H p o (some ho)):RH K mg (ρ++[p]) (upd H p ho) (h++[o])∧Le ρ H (ρ++[p]) (upd H p ho):=by
 have hne:∀n a,ρ[n]?=some a→a≠p:=fun n a e z=>by
  obtain ⟨o',_,q⟩:=r.obj e
  rw[z,hp] at q
  exact q.some rfl
 have l:Le ρ H (ρ++[p]) (upd H p ho):=⟨⟨[p],rfl⟩,fun a xs e=>by rw[aD (bf e hp)];exact e,fun a ob u e=>by rw[aD (bf e hp)];exact e⟩
 refine ⟨⟨by simp[r.len],?_,fun n a o' e1 e2=>?_⟩,l⟩
 ·rw[List.nodup_append]
  refine ⟨r.nd,by simp,fun a ha b hb=>?_⟩
  obtain ⟨n,e⟩:=List.mem_iff_getElem?.mp ha
  have hb':b=p:=by simpa using hb
  rw[hb'];exact hne n a e
 ·by_cases hlt:n<ρ.length
  ·rw[List.getElem?_append_left hlt] at e1
   rw[List.getElem?_append_left (by rw[←r.len];exact hlt)] at e2
   rw[aD (hne n a e1)]
   exact (r.at' n a o' e1 e2).le l
  ·rw[List.getElem?_append_right (by omega)] at e1
   rw[List.getElem?_append_right (by rw[←r.len];omega)] at e2
   have hn0:n - ρ.length=0:=by
    rcases Nat.eq_zero_or_pos (n - ρ.length) with z|z
    ·exact z
    ·rw[List.getElem?_eq_none (by simp;omega)] at e1;cases e1
   rw[hn0] at e1
   have hn1:n - h.length=0:=by have:=r.len;omega
   rw[hn1] at e2
   simp at e1 e2
   subst e1;subst e2
   rw[bS]
   exact hn.le l
theorem RH.put (r:RH K mg ρ H h) {n:Nat} {a:Addr} (e:ρ[n]?=some a) {o:MO} {ho:HO} (hn:RO K mg ρ H a o (some ho)):RH K mg ρ (upd H a ho) (h.set n o)∧Le ρ H ρ (upd H a ho):=by
 obtain ⟨o0,_,q⟩:=r.obj e
 obtain ⟨q1,q2⟩:=q.plain
 have l:Le ρ H ρ (upd H a ho):=⟨⟨[],by simp⟩,fun b xs z=>by
   have:b≠a:=by rintro rfl;exact q1 _ z
   rw[aD this];exact z,fun b ob u z=>by
   have:b≠a:=by rintro rfl;exact q2 _ _ z
   rw[aD this];exact z⟩
 refine ⟨⟨by simp[r.len],r.nd,fun m b o' e1 e2=>?_⟩,l⟩
 by_cases hm:m=n
 ·subst hm
  rw[e] at e1;cases e1
  rw[bS]
  have:m<h.length:=by rw[←r.len];exact (List.getElem?_eq_some_iff.mp e).1
  rw[List.getElem?_set_self this] at e2
  cases e2
  exact hn.le l
 ·rw[List.getElem?_set_ne (fun z=>hm z.symm)] at e2
  have hb:b≠a:=by
   rintro rfl
   have h1:=List.getElem?_eq_some_iff.mp e
   have h2:=List.getElem?_eq_some_iff.mp e1
   obtain ⟨l1,g1⟩:=h1
   obtain ⟨l2,g2⟩:=h2
   exact hm ((List.getElem_inj r.nd).mp (g2.trans g1.symm))
  rw[aD hb]
  exact (r.at' m b o' e1 e2).le l
theorem RH.tup (r:RH K mg ρ H h) {p:Addr} (hp:H p=none) (ys:List V):RH K mg ρ (upd H p (.tup ys)) h∧Le ρ H ρ (upd H p (.tup ys)):=by
 have hne:∀n a,ρ[n]?=some a→a≠p:=fun n a e z=>by
  obtain ⟨o',_,q⟩:=r.obj e
  rw[z,hp] at q
  exact q.some rfl
 have l:Le ρ H ρ (upd H p (.tup ys)):=⟨⟨[],by simp⟩,fun a xs e=>by rw[aD (bf e hp)];exact e,fun a ob u e=>by rw[aD (bf e hp)];exact e⟩
 exact ⟨⟨r.len,r.nd,fun n a o e1 e2=>by rw[aD (hne n a e1)];exact (r.at' n a o e1 e2).le l⟩,l⟩
end
def RS (K:PySem.W.Frag) (ρ:List Addr) (H:Hp) (σp:PSt) (σ:L2.St):Prop :=
 σ.length=σp.length∧∀(i:Nat) (v:PV),σp[i]?=some (some v)→∃v',σ[i]?=some (some v')∧RP K ρ H v v'
theorem RS.le {K:PySem.W.Frag} {ρ ρ':List Addr} {H H':Hp} {σp:PSt} {σ:L2.St} (l:Le ρ H ρ' H') (r:RS K ρ H σp σ):RS K ρ' H' σp σ :=
 ⟨r.1,fun i v e=>by obtain ⟨v',e',q⟩:=r.2 i v e;exact ⟨v',e',q.le l⟩⟩
theorem RS.set {K:PySem.W.Frag} {ρ:List Addr} {H:Hp} {σp:PSt} {σ:L2.St} (r:RS K ρ H σp σ) (i:Nat) {v:PV} {v':V} (q:RP K ρ H v v'):RS K ρ H (σp.set i (some v)) (σ.set i (some v')):=by
 refine ⟨by simp[r.1],fun j u e=>?_⟩
 by_cases hj:j=i
 ·subst hj
  by_cases hl:j<σp.length
  ·rw[List.getElem?_set_self hl] at e
   cases e
   exact ⟨v',List.getElem?_set_self (by rw[r.1];exact hl),q⟩
  ·rw[List.getElem?_eq_none (by simp;omega)] at e;cases e
 ·rw[List.getElem?_set_ne (fun z=>hj z.symm)] at e
  obtain ⟨u',e',q'⟩:=r.2 j u e
  exact ⟨u',by rw[List.getElem?_set_ne (fun z=>hj z.symm)];exact e',q'⟩
def Cov (B:Heap) (fs:List Addr) (h:Heap):Prop:=∀b o,h.get? b=some o→b∉fs→∃ob,B.get? b=some ob
def Fly (l:List Env) (H:Hp) (lim:Heap) (C ea:Addr) (h:Heap):Prop :=
 ∃B t,Heap.FlyingW B l ea (.ref C) (.ref t) h∧(∀b o,H b=some o→∃ob,B.get? b=some ob)∧Cov B (frs l) lim∧H ea=none
structure Bears (X:Cx) (h:Heap):Prop where
 old:∀b o,X.s₀.heap.get? b=some o→b∉X.ex→∃o',h.get? b=some o'
 cell:∀x c,X.env.cells.lookup x=some c→∃o,h.get? c=some o
 pin:∀p∈X.pn,∃o,h.get? p.1=some o
theorem Inv.bears {X:Cx} {pins:List (Addr × Obj)} {σ:L2.St} {H:Hp} {s:Shared} (I:Inv X pins σ H s):Bears X s.heap :=
 ⟨fun b o e n=>I.base.there b o e n,fun x c e=>let ⟨_,o,eo,_⟩:=I.cell x c e;⟨o,eo⟩,fun p hp=>⟨_,(I.pin p (List.mem_append_left _ hp)).1⟩⟩
def XP (X:Cx) (σp:PSt) (ρ:List Addr) (H:Hp) (x:MExc) (h:MH):Prop:=∀(ea C:Addr) (ρ':List Addr) (H':Hp) (σ':L2.St) (s':Shared) (lim:Heap),x.fs=[]→X.mg x.cls=some (.ref C)→Le ρ H ρ' H'→RH X.K X.mg ρ' H' h→RS X.K ρ' H' σp σ' →
 Inv X [] σ' H' s'→Bears X lim→Fly X.stack H' lim C ea s'.heap→X.xe (.ref ea) s'
def XM (X:Cx) (σp:PSt) (ρ:List Addr) (H:Hp) (x:MExc) (h:MH):Prop:=∀(ea C:Addr) (ρ':List Addr) (H':Hp) (σ':L2.St) (s':Shared) (h0:Heap) (args:List Value),x.fs=[]→X.mg x.cls=some (.ref C)→Le ρ H ρ' H'→RH X.K X.mg ρ' H' h→RS X.K ρ' H' σp σ' →
 Inv X [] σ' H' { s' with heap:=h0}→Heap.MadeExcOf h0 s'.heap ea (.ref C) args→X.xe (.ref ea) s'
theorem XP.le {X:Cx} {σp:PSt} {ρ ρ':List Addr} {H H':Hp} {x:MExc} {h:MH} (l:Le ρ H ρ' H') (q:XP X σp ρ H x h):XP X σp ρ' H' x h :=
 fun ea C ρ2 H2 σ2 s2 lim e1 e2 l2=>q ea C ρ2 H2 σ2 s2 lim e1 e2 (l.trans l2)
theorem XM.le {X:Cx} {σp:PSt} {ρ ρ':List Addr} {H H':Hp} {x:MExc} {h:MH} (l:Le ρ H ρ' H') (q:XM X σp ρ H x h):XM X σp ρ' H' x h :=
 fun ea C ρ2 H2 σ2 s2 lim args e1 e2 l2=>q ea C ρ2 H2 σ2 s2 lim args e1 e2 (l.trans l2)
abbrev Rl (α β:Type):=List Addr→Hp→α→β→Prop
def Ful {α β:Type} (X:Cx) (R:Rl α β) (σp:PSt) (ρ:List Addr) (H:Hp) (o:Out α) (Q:β→Hp→Prop):Prop:=match o with
 | .ok v h'=>∀ρ' H' v',Le ρ H ρ' H'→RH X.K X.mg ρ' H' h'→R ρ' H' v v'→Q v' H'
 | .exc x h'=>XP X σp ρ H x h'
 | .bad=>False
def Ful0 {α β:Type} (X:Cx) (R:Rl α β) (ρ:List Addr) (H:Hp) (o:Out α) (Q:β→Hp→Prop):Prop:=match o with
 | .ok v h'=>∀ρ' H' v',Le ρ H ρ' H'→RH X.K X.mg ρ' H' h'→R ρ' H' v v'→Q v' H'
 | _=>False
theorem Ful.zero {α β:Type} {X:Cx} {R:Rl α β} {σp:PSt} {ρ:List Addr} {H:Hp} {o:Out α} {Q:β→Hp→Prop} (f:Ful X R σp ρ H o.ne Q):Ful0 X R ρ H o Q:=by
 cases o with
 | ok v h=>exact f
 | exc x h=>exact f
 | bad=>exact f
theorem Ful.le {α β:Type} {X:Cx} {R:Rl α β} {σp:PSt} {ρ ρ1:List Addr} {H H1:Hp} {o:Out α} {Q:β→Hp→Prop} (l:Le ρ H ρ1 H1) (f:Ful X R σp ρ H o Q):Ful X R σp ρ1 H1 o Q:=by
 cases o with
 | ok v h=>exact fun ρ' H' v' l'=>f ρ' H' v' (l.trans l')
 | exc x h=>exact XP.le (X:=X) (σp:=σp) (x:=x) (h:=h) l f
 | bad=>exact f
theorem Ful.bind {α β γ δ:Type} {X:Cx} {R:Rl α β} {S:Rl γ δ} {σp:PSt} {ρ:List Addr} {H:Hp} {o:Out α} {f:α→MH→Out γ} {Q:δ→Hp→Prop} {Q':β→Hp→Prop} (q:Ful X S σp ρ H (o.bind f) Q)
  (k:∀ρ1 H1 v v' h1,o=.ok v h1→Le ρ H ρ1 H1→RH X.K X.mg ρ1 H1 h1→R ρ1 H1 v v'→Ful X S σp ρ1 H1 (f v h1) Q→Q' v' H1):Ful X R σp ρ H o Q':=by
 cases o with
 | ok v h=>exact fun ρ' H' v' l r w=>k ρ' H' v v' h rfl l r w (Ful.le l q)
 | exc x h=>exact q
 | bad=>exact q
abbrev RV' (X:Cx):Rl PV V:=fun ρ H=>RP X.K ρ H
abbrev RVs' (X:Cx):Rl (List PV) (List V):=fun ρ H=>RPs X.K ρ H
abbrev REq {α:Type}:Rl α α:=fun _ _ x y=>x=y
abbrev Mx (α:Type):=PSt→MH→Out α
def tM {α β:Type} (X:Cx) (R:Rl α β) (m:Mx α):L2.St→Hp→(β→Hp→Prop)→Prop:=fun σ H Q=>∃ρ σp h,RS X.K ρ H σp σ∧RH X.K X.mg ρ H h∧Ful X R σp ρ H (m σp h) Q
def ME (X:Cx) (e:Expr) (m:Mx PV):Prop:=PE X e (tM X (RV' X) m)
def MT (X:Cx) (e:Expr) (m:Mx Bool):Prop:=PT X e (tM X REq m)
def MW (X:Cx) (e:Expr) (m:Mx Bool):Prop:=PW X e (tM X REq m)
def MA (X:Cx) (es:List Expr) (m:Mx (List PV)):Prop:=PA X es (tM X (RVs' X) m)
theorem PE.imp {X:Cx} {e:Expr} {t t':TE} (h:PE X e t) (i:∀σ H Q,t' σ H Q→t σ H Q):PE X e t':=fun pins s σ H Q I q=>h pins s σ H Q I (i σ H Q q)
theorem PT.imp {X:Cx} {e:Expr} {t t':TT} (h:PT X e t) (i:∀σ H Q,t' σ H Q→t σ H Q):PT X e t':=fun pins s σ H Q I q=>h pins s σ H Q I (i σ H Q q)
theorem PW.imp {X:Cx} {e:Expr} {t t':TT} (h:PW X e t) (i:∀σ H Q,t' σ H Q→t σ H Q):PW X e t':=fun whole pins s σ H Q I q=>h whole pins s σ H Q I (i σ H Q q)
theorem PA.imp {X:Cx} {e:List Expr} {t t':TA} (h:PA X e t) (i:∀σ H Q,t' σ H Q→t σ H Q):PA X e t':=fun pos pins s σ H Q I q=>h pos pins s σ H Q I (i σ H Q q)
theorem PS.imp {X:Cx} {e:Stmt} {t t':TS} (h:PS X e t) (i:∀D σ H,t' D σ H→t D σ H):PS X e t':=fun pins s σ H D I q=>h pins s σ H D I (i D σ H q)
theorem PSs.imp {X:Cx} {e:List Stmt} {t t':TS} (h:PSs X e t) (i:∀D σ H,t' D σ H→t D σ H):PSs X e t':=fun pins s σ H D I q=>h pins s σ H D I (i D σ H q)
def FulS (X:Cx) (ρ:List Addr) (H:Hp) (o:SOut) (D:Ends):Prop:=match o with
 | .nx σp h'=>∀ρ' H' σ',Le ρ H ρ' H'→RH X.K X.mg ρ' H' h'→RS X.K ρ' H' σp σ'→D.nx σ' H'
 | .bk σp h'=>∀ρ' H' σ',Le ρ H ρ' H'→RH X.K X.mg ρ' H' h'→RS X.K ρ' H' σp σ'→D.bk σ' H'
 | .ct σp h'=>∀ρ' H' σ',Le ρ H ρ' H'→RH X.K X.mg ρ' H' h'→RS X.K ρ' H' σp σ'→D.ct σ' H'
 | .rt v h'=>∀ρ' H' v',Le ρ H ρ' H'→RH X.K X.mg ρ' H' h'→RP X.K ρ' H' v v'→D.rt v' H'
 | .exc x σp h'=>XP X σp ρ H x h'
 | .rse x σp h'=>XM X σp ρ H x h'
 | .bad=>False
theorem FulS.le {X:Cx} {ρ ρ1:List Addr} {H H1:Hp} {o:SOut} {D:Ends} (l:Le ρ H ρ1 H1) (f:FulS X ρ H o D):FulS X ρ1 H1 o D:=by
 cases o with
 | nx σp h=>exact fun ρ' H' v' l'=>f ρ' H' v' (l.trans l')
 | bk σp h=>exact fun ρ' H' v' l'=>f ρ' H' v' (l.trans l')
 | ct σp h=>exact fun ρ' H' v' l'=>f ρ' H' v' (l.trans l')
 | rt v h=>exact fun ρ' H' v' l'=>f ρ' H' v' (l.trans l')
 | exc x σp h=>exact XP.le (X:=X) (σp:=σp) (x:=x) (h:=h) l f
 | rse x σp h=>exact XM.le (X:=X) (σp:=σp) (x:=x) (h:=h) l f
 | bad=>exact f
abbrev Mst:=PSt→MH→SOut
def tMS (X:Cx) (m:Mst):TS:=fun D σ H=>∃ρ σp h,RS X.K ρ H σp σ∧RH X.K X.mg ρ H h∧FulS X ρ H (m σp h) D
def MS (X:Cx) (st:Stmt) (m:Mst):Prop:=PS X st (tMS X m)
def MSs (X:Cx) (st:List Stmt) (m:Mst):Prop:=PSs X st (tMS X m)
section
variable {X:Cx} {N W G:List Str} {k:Nat}
structure Good (X:Cx) (N W G:List Str) (k:Nat):Prop where
 hN:X.N=N
 nd:N.Nodup
 loc:∀x∈N,Loc X.env.scope x
 fn:∀x∈W,X.fn x=true∨X.env.scope.names.lookup x=some .local
 gl:∀x∈G,Gl X x
 dbg:∀x∈N++G,(x == ("__debug__":Str))=false∧(x == ("__classdict__":Str))=false∧x≠"__name__"
 calm:X.calm=true
 room:Room k X.A
 po:PassesOwn (model X.prog X.w) X.A X.env X.xe
theorem Good.x (g:Good X N W G k) {i:Nat} {x:Str} (hi:N[i]?=some x):X.N[i]?=some x:=by rw[g.hN];exact hi
theorem aC {l:List Str} {i:Nat} {x:Str} (hi:l[i]?=some x):x∈l:=List.mem_of_getElem? hi
def rJ (X:Cx) (g:PV→PV→MH→Out PV):R2:=fun x' y' H Q=>∃ρ h x y,RH X.K X.mg ρ H h∧RP X.K ρ H x x'∧RP X.K ρ H y y'∧Ful0 X (RV' X) ρ H (g x y h) Q
abbrev OpJ (X:Cx) (f:Value→Value→Sem Value) (g:PV→PV→MH→Out PV):Prop:=OpR X f (rJ X g)
def uJ (X:Cx) (g:PV→MH→Out PV):V→Hp→VK→Prop:=fun x' H Q=>∃ρ h x,RH X.K X.mg ρ H h∧RP X.K ρ H x x'∧Ful0 X (RV' X) ρ H (g x h) Q
abbrev UnJ (X:Cx) (f:Value→Sem Value) (g:PV→MH→Out PV):Prop:=UnR X f (uJ X g)
def cJ (X:Cx) (g:List PV→MH→Out PV):List V→Hp→VK→Prop:=fun xs' H Q=>∃ρ h xs,RH X.K X.mg ρ H h∧RPs X.K ρ H xs xs'∧Ful0 X (RV' X) ρ H (g xs h) Q
abbrev dy (X:Cx) (f:Value) (g:List PV→MH→Out PV):Prop:=cK X f (cJ X g)
def mVar (i:Nat):Mx PV:=fun σ h=>match σ[i]? with
 | some (some v)=>.ok v h
 | _=>.bad
def mC (v:PV):Mx PV:=fun _ h=>.ok v h
theorem af (g:Good X N W G k) (i:Nat) {x:Str} {pos:Pos} (hi:N[i]?=some x):ME X (.Name x pos) (mVar i):=by
 have d:=g.dbg x (List.mem_append_left _ (aC hi))
 have hv:Vis X.env.scope x:=by
  rcases g.loc x (aC hi) with q|q
  ·exact .inl q
  ·exact .inr (.inl q)
 refine PE.imp (pe_var (g.x hi) hv d.1 d.2.1) fun σ H Q ⟨ρ,σp,h,rs,rh,f⟩=>?_
 unfold mVar at f
 cases e:σp[i]? with
 | none=>rw[e] at f;exact f.elim
 | some o =>
  rw[e] at f
  cases o with
  | none=>exact f.elim
  | some v =>
   obtain ⟨v',e',r⟩:=rs.2 i v e
   exact ⟨v',e',f ρ H v' (Le.refl _ _) rh r⟩
theorem ah {i:Int} {j:Nat} {pos:Pos}:ME X (.Constant (.int i) j pos) (mC (.int i)):=PE.imp pe_int fun _ H _ ⟨ρ,_,_,_,rh,f⟩=>f ρ H _ (Le.refl _ _) rh (.int i)
theorem aO {i:Str} {j:Nat} {pos:Pos}:ME X (.Constant (.str i) j pos) (mC (.str i)):=PE.imp pe_str fun _ H _ ⟨ρ,_,_,_,rh,f⟩=>f ρ H _ (Le.refl _ _) rh (.str i)
theorem gK {i:Bool} {j:Nat} {pos:Pos}:ME X (.Constant (.bool i) j pos) (mC (.bl i)):=PE.imp pe_bl fun _ H _ ⟨ρ,_,_,_,rh,f⟩=>f ρ H _ (Le.refl _ _) rh (.bl i)
def mBin (f:PV→PV→MH→Out PV) (ma mb:Mx PV):Mx PV:=fun σ h=>(ma σ h).bind fun x h1=>(mb σ h1).bind fun y h2=>(f x y h2).ne
def mUn (f:PV→MH→Out PV) (ma:Mx PV):Mx PV:=fun σ h=>(ma σ h).bind fun x h1=>(f x h1).ne
theorem jK {f:PV→PV→MH→Out PV} {ma mb:Mx PV} {σ:L2.St} {H:Hp} {Q:VK} (q:tM X (RV' X) (mBin f ma mb) σ H Q):tOp (rJ X f) (tM X (RV' X) ma) (tM X (RV' X) mb) σ H Q:=by
 obtain ⟨ρ,σp,h,rs,rh,q⟩:=q
 refine ⟨ρ,σp,h,rs,rh,Ful.bind q fun ρ1 H1 x x' h1 _ l1 rh1 rx q1=>?_⟩
 refine ⟨ρ1,σp,h1,rs.le l1,rh1,Ful.bind q1 fun ρ2 H2 y y' h2 _ l2 rh2 ry q2=>?_⟩
 exact ⟨ρ2,h2,x,y,rh2,rx.le l2,ry,q2.zero⟩
theorem ak {op:Operator} {f:PV→PV→MH→Out PV} {a b:Expr} {ma mb:Mx PV} {pos:Pos} (ho:OpJ X (binaryOp op) f) (ha:ME X a ma) (hb:ME X b mb):ME X (.BinOp a op b pos) (mBin f ma mb) :=
 PE.imp (pe_op ho ha hb) fun _ _ _ q=>jK q
theorem lF {op:UnaryOp} {f:PV→MH→Out PV} {a:Expr} {ma:Mx PV} {pos:Pos} (ho:UnJ X (unaryOp op) f) (ha:ME X a ma):ME X (.UnaryOp op a pos) (mUn f ma) :=
 PE.imp (pe_un ho ha) fun _ _ _ ⟨ρ,σp,h,rs,rh,q⟩=>⟨ρ,σp,h,rs,rh,Ful.bind q fun ρ1 H1 x x' h1 _ l1 rh1 rx q1=>⟨ρ1,h1,x,rh1,rx,q1.zero⟩⟩
theorem me_cmp {op:CmpOp} {f:PV→PV→MH→Out PV} {a b:Expr} {ma mb:Mx PV} {pos:Pos} (ho:OpJ X (compareOp op) f) (ha:ME X a ma) (hb:ME X b mb) (hm:behindInMarks op b=false):ME X (.Compare a [op] [b] pos) (mBin f ma mb) :=
 PE.imp (pe_cmpR ho ha hb hm) fun _ _ _ q=>jK q
def mB (m:Mx PV):Mx Bool:=fun σ h=>(m σ h).bind fun v h1=>match v with
 | .bl b=>.ok b h1
 | _=>.bad
theorem tM_B {m:Mx PV} {σ:L2.St} {H:Hp} {Q:Bool→Hp→Prop} (q:tM X REq (mB m) σ H Q):tM X (RV' X) m σ H fun x H1=>∃c,x=.bl c∧Q c H1:=by
 obtain ⟨ρ,σp,h,rs,rh,q⟩:=q
 refine ⟨ρ,σp,h,rs,rh,Ful.bind q fun ρ1 H1 x x' h1 _ l1 rh1 rx q1=>?_⟩
 cases rx with
 | bl b=>exact ⟨b,rfl,q1 ρ1 H1 b (Le.refl _ _) rh1 rfl⟩
 | _=>exact q1.elim
theorem aN {op:CmpOp} {f:PV→PV→MH→Out PV} {a b:Expr} {ma mb:Mx PV} {pos:Pos} (ho:OpJ X (compareOp op) f) (ha:ME X a ma) (hb:ME X b mb) (hm:behindInMarks op b=false):MT X (.Compare a [op] [b] pos) (mB (mBin f ma mb)) :=
 PT.imp (pt_cmpR ho ha hb hm) fun σ H Q q=>by
  obtain ⟨ρ,σp,h,rs,rh,q⟩:=tM_B q
  exact jK (Q:=fun x H'=>∃k,x=.bl k∧Q k H') ⟨ρ,σp,h,rs,rh,q⟩
theorem fC {e:Expr} {m:Mx PV} (h:ME X e m) (he:∀whole,isTrue e X.env whole=(do let v ←whole;standAt e.pos;holding [v] (truthy v)):=by intro _;rfl):MT X e (mB m) :=
 PT.imp (pt_val h he) fun _ _ _ q=>tM_B q
def mNot (m:Mx Bool):Mx Bool:=fun σ h=>(m σ h).bind fun b h1=>.ok (!b) h1
theorem fE {e:Expr} {m:Mx Bool} {pos:Pos} (h:MT X e m):MT X (.UnaryOp .Not e pos) (mNot m) :=
 PT.imp (pt_not h) fun _ _ _ ⟨ρ,σp,h,rs,rh,q⟩=>⟨ρ,σp,h,rs,rh,Ful.bind q fun ρ1 H1 x x' h1 _ l1 rh1 rx q1=>by
  cases rx;exact q1 ρ1 H1 _ (Le.refl _ _) rh1 rfl⟩
def mOr (a b:Mx Bool):Mx Bool:=fun σ h=>(a σ h).bind fun x h1=>if x=true then .ok true h1 else b σ h1
section
variable {a b:Expr} {rest:List Expr} {ma mb:Mx Bool} {pos:Pos}
theorem gW (ha:MT X a ma):MW X (.BoolOp .Or [a] pos) ma:=pw_or1 ha
theorem je (ha:MT X a ma) (hb:MW X (.BoolOp .Or (b::rest) pos) mb):MW X (.BoolOp .Or (a::b::rest) pos) (mOr ma mb) :=
 PW.imp (pw_or ha hb) fun σ H Q ⟨ρ,σp,h,rs,rh,q⟩=>⟨ρ,σp,h,rs,rh,Ful.bind q fun ρ1 H1 x x' h1 _ l1 rh1 rx q1=>by
  cases rx
  cases x with
  | true=>rw[if_pos rfl] at q1 ⊢;exact q1 ρ1 H1 _ (Le.refl _ _) rh1 rfl
  | false=>rw[if_neg Bool.false_ne_true] at q1 ⊢;exact ⟨ρ1,σp,h1,rs.le l1,rh1,q1⟩⟩
theorem MW.mt {e:Expr} {m:Mx Bool} (h:MW X e m):MT X e m:=PW.pt h
end
def gN (a b:Mx PV):Mx PV:=fun σ h=>(a σ h).bind fun x h1=>match x with
 | .bl c=>if c=true then b σ h1 else .ok (.bl false) h1
 | _=>.bad
def jh (a:Mx PV):Mx PV:=fun σ h=>(a σ h).bind fun x h1=>match x with
 | .bl c=>.ok (.bl (!c)) h1
 | _=>.bad
section
variable {a b:Expr} {rest:List Expr} {ma mb:Mx PV} {pos:Pos}
theorem mZ {op:BoolOp} (ha:ME X a ma):ME X (.BoolOp op [a] pos) ma:=pe_one ha
theorem md (ha:ME X a ma) (hb:ME X (.BoolOp .And (b::rest) pos) mb):ME X (.BoolOp .And (a::b::rest) pos) (gN ma mb) :=
 PE.imp (pe_and ha hb) fun σ H Q ⟨ρ,σp,h,rs,rh,q⟩=>⟨ρ,σp,h,rs,rh,Ful.bind q fun ρ1 H1 x x' h1 _ l1 rh1 rx q1=>by
  cases rx with
  | bl c =>
   refine ⟨c,rfl,?_⟩
   dsimp only at q1
   cases c with
   | true=>rw[if_pos rfl] at q1 ⊢;exact ⟨ρ1,σp,h1,rs.le l1,rh1,q1⟩
   | false=>rw[if_neg Bool.false_ne_true] at q1 ⊢;exact q1 ρ1 H1 _ (Le.refl _ _) rh1 (.bl false)
  | _=>exact q1.elim⟩
theorem me_not (ha:ME X a ma):ME X (.UnaryOp .Not a pos) (jh ma) :=
 PE.imp (pe_not ha) fun σ H Q ⟨ρ,σp,h,rs,rh,q⟩=>⟨ρ,σp,h,rs,rh,Ful.bind q fun ρ1 H1 x x' h1 _ l1 rh1 rx q1=>by
  cases rx with
  | bl c=>exact ⟨c,rfl,q1 ρ1 H1 _ (Le.refl _ _) rh1 (.bl _)⟩
  | _=>exact q1.elim⟩
end
def mNil:Mx (List PV):=fun _ h=>.ok [] h
def ac (a:Mx PV) (r:Mx (List PV)):Mx (List PV):=fun σ h=>(a σ h).bind fun x h1=>(r σ h1).bind fun xs h2=>.ok (x::xs) h2
theorem ag:MA X [] mNil:=PA.imp m6 fun σ H Q ⟨ρ,σp,h,rs,rh,q⟩=>q ρ H _ (Le.refl _ _) rh .nil
theorem aa {e:Expr} {es:List Expr} {m:Mx PV} {ms:Mx (List PV)} (ha:ME X e m) (hr:MA X es ms) (hs:starEach (e::es) X.env=(false,eval e X.env)::starEach es X.env:=by rfl):MA X (e::es) (ac m ms) :=
 PA.imp (ig ha hr hs) fun σ H Q ⟨ρ,σp,h,rs,rh,q⟩=>⟨ρ,σp,h,rs,rh,Ful.bind q fun ρ1 H1 x x' h1 _ l1 rh1 rx q1 =>
  ⟨ρ1,σp,h1,rs.le l1,rh1,Ful.bind q1 fun ρ2 H2 y y' h2 _ l2 rh2 ry q2=>q2 ρ2 H2 _ (Le.refl _ _) rh2 (.cons (rx.le l2) ry)⟩⟩
noncomputable def newL (xs:List PV) (h:MH):Out PV:=if xs.length≤sizeLine then .ok (.loc h.length) (h++[.lst xs]) else .bad
noncomputable def newT (xs:List PV) (h:MH):Out PV:=if xs.length≤sizeLine then .ok (.tup xs) h else .bad
theorem gc {ρ:List Addr} {H:Hp} {h:MH} {xs:List PV} {ys:List V} {Q:VK} (rh:RH X.K X.mg ρ H h) (rs:RPs X.K ρ H xs ys) (f:Ful0 X (RV' X) ρ H (newL xs h) Q):ys.length≤sizeLine∧∀p,H p=none→Q (.ref p) (upd H p (.lst ys)):=by
 unfold newL at f
 split at f
 ·rename_i hl
  refine ⟨by rw[←rs.length];exact hl,fun p hp=>?_⟩
  obtain ⟨r1,l1⟩:=rh.new hp (o:=.lst xs) (ho:=.lst ys) ⟨ys,rfl,rs⟩
  refine f _ _ _ l1 r1 (.loc ?_)
  rw[←rh.len];simp
 ·exact f.elim
theorem kP {ρ:List Addr} {H:Hp} {h:MH} {xs:List PV} {ys:List V} {Q:VK} (rh:RH X.K X.mg ρ H h) (rs:RPs X.K ρ H xs ys) (f:Ful0 X (RV' X) ρ H (newT xs h) Q):ys.length≤sizeLine∧∀p,H p=none→Q (.ref p) (upd H p (.tup ys)):=by
 unfold newT at f
 split at f
 ·rename_i hl
  refine ⟨by rw[←rs.length];exact hl,fun p hp=>?_⟩
  obtain ⟨r1,l1⟩:=rh.tup hp ys
  exact f _ _ _ l1 r1 (.tup (.inl (.inl bS)) (rs.le l1))
 ·exact f.elim
theorem newL_f {σp:PSt} {ρ:List Addr} {H:Hp} {h:MH} {xs:List PV} {Q:VK} (f:Ful X (RV' X) σp ρ H (newL xs h) Q):Ful0 X (RV' X) ρ H (newL xs h) Q:=by
 unfold newL at f ⊢
 split at f
 ·rw[if_pos (by assumption)];exact f
 ·exact f.elim
theorem newT_f {σp:PSt} {ρ:List Addr} {H:Hp} {h:MH} {xs:List PV} {Q:VK} (f:Ful X (RV' X) σp ρ H (newT xs h) Q):Ful0 X (RV' X) ρ H (newT xs h) Q:=by
 unfold newT at f ⊢
 split at f
 ·rw[if_pos (by assumption)];exact f
 ·exact f.elim
noncomputable def mLst (m:Mx (List PV)):Mx PV:=fun σ h=>(m σ h).bind newL
noncomputable def mTup (m:Mx (List PV)):Mx PV:=fun σ h=>(m σ h).bind newT
theorem bG {es:List Expr} {ms:Mx (List PV)} {pos:Pos} (h:MA X es ms):ME X (.List es pos) (mLst ms) :=
 PE.imp (pe_lst h) fun σ H Q ⟨ρ,σp,h,rs,rh,q⟩=>⟨ρ,σp,h,rs,rh,Ful.bind q fun ρ1 H1 x x' h1 _ l1 rh1 rx q1=>gc rh1 rx (newL_f q1)⟩
theorem cm {es:List Expr} {ms:Mx (List PV)} {j:Nat} {pos:Pos} (h:MA X es ms):ME X (.Tuple es j pos) (mTup ms) :=
 PE.imp (pe_tup h) fun σ H Q ⟨ρ,σp,h,rs,rh,q⟩=>⟨ρ,σp,h,rs,rh,Ful.bind q fun ρ1 H1 x x' h1 _ l1 rh1 rx q1=>kP rh1 rx (newT_f q1)⟩
def SOut.then (o:SOut) (k:Mst):SOut:=match o with
 | .nx σ h=>k σ h
 | o=>o
def mSeq (a b:Mst):Mst:=fun σ h=>(a σ h).then b
def mSkip:Mst:=fun σ h=>.nx σ h
theorem aS:MSs X [] mSkip:=PSs.imp pss_nil fun D σ H ⟨ρ,σp,h,rs,rh,q⟩=>q ρ H σ (Le.refl _ _) rh rs
theorem ao {st:Stmt} {m:Mst} (h:MS X st m):MSs X [st] m:=pss_one h
theorem FulS.then {ρ:List Addr} {H:Hp} {o:SOut} {k:Mst} {D:Ends} (q:FulS X ρ H (o.then k) D):FulS X ρ H o { D with nx:=fun σ H=>tMS X k D σ H}:=by
 cases o with
 | nx σp h=>exact fun ρ' H' σ' l r s=>⟨ρ',σp,h,s,r,FulS.le l q⟩
 | _=>exact q
theorem aj {st:Stmt} {rest:List Stmt} {m u:Mst} (h1:MS X st m) (h2:MSs X rest u):MSs X (st::rest) (mSeq m u) :=
 PSs.imp (nW h1 h2) fun D σ H ⟨ρ,σp,h,rs,rh,q⟩=>⟨ρ,σp,h,rs,rh,FulS.then q⟩
def mRet (m:Mx PV):Mst:=fun σ h=>match m σ h with
 | .ok v h'=>.rt v h'
 | .exc x h'=>.exc x σ h'
 | .bad=>.bad
theorem ax {e:Expr} {m:Mx PV} {pos:Pos} (he:ME X e m):MS X (.Return (some e) pos) (mRet m) :=
 PS.imp (ps_ret he) fun D σ H ⟨ρ,σp,h,rs,rh,q⟩=>⟨ρ,σp,h,rs,rh,by
  unfold mRet at q
  cases e:m σp h with
  | ok v h'=>rw[e] at q;exact q
  | exc x h'=>rw[e] at q;exact q
  | bad=>rw[e] at q;exact q⟩
def mEx {α:Type} (m:Mx α) (k:α→Mst):Mst:=fun σ h=>match m σ h with
 | .ok v h'=>k v σ h'
 | .exc x h'=>.exc x σ h'
 | .bad=>.bad
theorem FulS.ex {α β:Type} {R:Rl α β} {m:Mx α} {k:α→Mst} {ρ:List Addr} {H:Hp} {σp:PSt} {h:MH} {D:Ends} {Q:β→Hp→Prop} (q:FulS X ρ H (mEx m k σp h) D)
  (w:∀ρ1 H1 v v' h1,Le ρ H ρ1 H1→RH X.K X.mg ρ1 H1 h1→R ρ1 H1 v v'→FulS X ρ1 H1 (k v σp h1) D→Q v' H1):Ful X R σp ρ H (m σp h) Q:=by
 unfold mEx at q
 cases e:m σp h with
 | ok v h'=>rw[e] at q;exact fun ρ1 H1 v' l r z=>w ρ1 H1 v v' h' l r z (FulS.le l q)
 | exc x h'=>rw[e] at q;exact q
 | bad=>rw[e] at q;exact q
def fo (m:Mx PV):Mst:=mEx m fun _=>mSkip
theorem kH {e:Expr} {m:Mx PV} {pos:Pos} (he:ME X e m) (hs:swapsWith e none pos.line X.env=pure false:=by rfl):MS X (.Expr e pos) (fo m) :=
 PS.imp (ps_expr he hs) fun D σ H ⟨ρ,σp,h,rs,rh,q⟩=>⟨ρ,σp,h,rs,rh,FulS.ex q fun ρ1 H1 v v' h1 l r z w=>w ρ1 H1 σ (Le.refl _ _) r (rs.le l)⟩
def mIf (c:Mx Bool) (a b:Mst):Mst:=mEx c fun x=>if x=true then a else b
theorem br {c:Expr} {a b:List Stmt} {mc:Mx Bool} {ma mb:Mst} {pos:Pos} (hc:MT X c mc) (ha:MSs X a ma) (hb:MSs X b mb):MS X (.If c a b pos) (mIf mc ma mb) :=
 PS.imp (ps_if hc ha hb) fun D σ H ⟨ρ,σp,h,rs,rh,q⟩=>⟨ρ,σp,h,rs,rh,FulS.ex q fun ρ1 H1 v v' h1 l r z w=>by
  cases z
  cases v with
  | true=>rw[if_pos rfl];exact ⟨ρ1,σp,h1,rs.le l,r,w⟩
  | false=>rw[if_neg Bool.false_ne_true];exact ⟨ρ1,σp,h1,rs.le l,r,w⟩⟩
def mSet (i:Nat) (m:Mx PV):Mst:=mEx m fun v σ h=>.nx (σ.set i (some v)) h
theorem ar (g:Good X N W G k) (i:Nat) {x:Str} {e:Expr} {m:Mx PV} {pos pos':Pos} (hi:N[i]?=some x) (hw:W[i]?=some x) (he:ME X e m) (hs:swapsWith e (some (.Name x pos')) pos.line X.env=pure false:=by rfl) :
  MS X (.Assign [.Name x pos'] e pos) (mSet i m):=by
 refine PS.imp (ps_set (X:=X) (i:=i) (by rw[g.hN];exact g.nd) (g.x hi) (g.loc x (aC hi)) he hs (g.fn x (aC hw))) fun D σ H ⟨ρ,σp,h,rs,rh,q⟩=>?_
 exact ⟨ρ,σp,h,rs,rh,FulS.ex q fun ρ1 H1 v v' h1 l r z w=>w ρ1 H1 _ (Le.refl _ _) r ((rs.le l).set i z)⟩
end
end MM
namespace MM
open PySem PySem.Spec PyProof.Rows L2
noncomputable local instance (priority:=1) cdec (p:Prop):Decidable p:=Classical.propDecidable p
section
variable {X:Cx} {N W G:List Str} {k:Nat}
abbrev Mg:=PV→Mst
def FulG (X:Cx) (ρ:List Addr) (H:Hp) (o:SOut) (Q:L2.St→Hp→Prop):Prop:=match o with
 | .nx σp h'=>∀ρ' H' σ',Le ρ H ρ' H'→RH X.K X.mg ρ' H' h'→RS X.K ρ' H' σp σ'→Q σ' H'
 | .exc x σp h'=>XP X σp ρ H x h'
 | _=>False
theorem FulG.le {ρ ρ1:List Addr} {H H1:Hp} {o:SOut} {Q:L2.St→Hp→Prop} (l:Le ρ H ρ1 H1) (f:FulG X ρ H o Q):FulG X ρ1 H1 o Q:=by
 cases o with
 | nx σp h=>exact fun ρ' H' v' l'=>f ρ' H' v' (l.trans l')
 | exc x σp h=>exact XP.le (X:=X) (σp:=σp) (x:=x) (h:=h) l f
 | _=>exact f
def tG (X:Cx) (g:Mg):TG:=fun v' σ H Q=>∃ρ σp h v,RS X.K ρ H σp σ∧RH X.K X.mg ρ H h∧RP X.K ρ H v v'∧FulG X ρ H (g v σp h) Q
def MG (X:Cx) (tg:Expr) (g:Mg):Prop:=PG X tg (tG X g)
theorem PG.imp {e:Expr} {t t':TG} (h:PG X e t) (i:∀v σ H Q,t' v σ H Q→t v σ H Q):PG X e t':=fun pins s σ H v u Q I r q=>h pins s σ H v u Q I r (i v σ H Q q)
def gNm (i:Nat):Mg:=fun v σ h=>.nx (σ.set i (some v)) h
theorem aL (g:Good X N W G k) (i:Nat) {x:Str} {pos:Pos} (hi:N[i]?=some x) (hw:W[i]?=some x):MG X (.Name x pos) (gNm i) :=
 PG.imp (pg_name (by rw[g.hN];exact g.nd) (g.x hi) (g.loc x (aC hi)) (g.fn x (aC hw))) fun v' σ H Q ⟨ρ,σp,h,v,rs,rh,rv,q⟩=>q ρ H _ (Le.refl _ _) rh (rs.set i rv)
abbrev Mgs:=List PV→Mst
def tGs (X:Cx) (g:Mgs):TGs:=fun v' σ H Q=>∃ρ σp h v,RS X.K ρ H σp σ∧RH X.K X.mg ρ H h∧RPs X.K ρ H v v'∧FulG X ρ H (g v σp h) Q
def MGs (X:Cx) (tg:List Expr) (g:Mgs):Prop:=PGs X tg (tGs X g)
theorem PGs.imp {e:List Expr} {t t':TGs} (h:PGs X e t) (i:∀v σ H Q,t' v σ H Q→t v σ H Q):PGs X e t':=fun pins s σ H v u Q I r q=>h pins s σ H v u Q I r (i v σ H Q q)
def gNl:Mgs:=fun vs σ h=>match vs with
 | []=>.nx σ h
 | _=>.bad
def gCn (a:Mg) (r:Mgs):Mgs:=fun vs σ h=>match vs with
 | v::vr=>(a v σ h).then (r vr)
 | []=>.bad
theorem eS:MGs X [] gNl:=PGs.imp pgs_nil fun v' σ H Q ⟨ρ,σp,h,v,rs,rh,rv,q⟩=>by
 cases rv with
 | nil=>exact ⟨rfl,q ρ H σ (Le.refl _ _) rh rs⟩
 | cons _ _=>exact q.elim
theorem bu {e:Expr} {es:List Expr} {a:Mg} {r:Mgs} (h1:MG X e a) (h2:MGs X es r)
  (hs:(assignEach (e::es) X.env).map (·.2)=assign e X.env::(assignEach es X.env).map (·.2):=by rfl):MGs X (e::es) (gCn a r) :=
 PGs.imp (nY h1 h2 hs) fun v' σ H Q ⟨ρ,σp,h,v,rs,rh,rv,q⟩=>by
  cases rv with
  | nil=>exact q.elim
  | @cons x y xs ys rx rr =>
   refine ⟨_,_,rfl,ρ,σp,h,x,rs,rh,rx,?_⟩
   dsimp only[gCn] at q
   cases e:a x σp h with
   | nx σ1 h1=>rw[e] at q;exact fun ρ' H' σ' l r1 s1=>⟨ρ',σ1,h1,xs,s1,r1,rr.le l,FulG.le l q⟩
   | exc x1 σ1 h1=>rw[e] at q;exact q
   | _=>rw[e] at q;exact q
def gTp (r:Mgs) (n:Nat):Mg:=fun v σ h=>match v with
 | .tup xs=>if xs.length=n then r xs σ h else .bad
 | _=>.bad
theorem fD (g:Good X N W G k) {es:List Expr} {j:Nat} {r:Mgs} {n:Nat} {pos:Pos} (h:MGs X es r) (hn:(assignEach es X.env).length=n:=by rfl) (hst:(assignEach es X.env).findIdx? (·.1)=none:=by rfl) :
  MG X (.Tuple es j pos) (gTp r n) :=
 PG.imp (pg_tup g.calm h hn hst) fun v' σ H Q ⟨ρ,σp,h,v,rs,rh,rv,q⟩=>by
  cases rv with
  | tup s rr =>
   dsimp only[gTp] at q
   split at q
   ·rename_i hl
    exact ⟨_,_,rfl,s,by rw[←rr.length];exact hl,ρ,σp,h,_,rs,rh,rr,q⟩
   ·exact q.elim
  | _=>exact q.elim
def mAsg (m:Mx PV) (g:Mg):Mst:=mEx m fun v σ h=>match g v σ h with
 | .nx σ2 h2=>.nx σ2 h2
 | .exc x σ2 h2=>.exc x σ2 h2
 | _=>.bad
theorem mU {tg e:Expr} {m:Mx PV} {g:Mg} {pos:Pos} (he:ME X e m) (hg:MG X tg g) (hs:swapsWithSole [tg] e pos.line X.env=pure false:=by rfl) (hw:swappedStores [tg] e X.env=pure none:=by rfl)
  (h1:(assignEach [tg] X.env).map (·.2)=[assign tg X.env]:=by rfl):MS X (.Assign [tg] e pos) (mAsg m g) :=
 PS.imp (ps_asg he hg hs hw h1) fun D σ H ⟨ρ,σp,h,rs,rh,q⟩=>⟨ρ,σp,h,rs,rh,FulS.ex q fun ρ1 H1 v v' h1 l r z w=>⟨ρ1,σp,h1,v,rs.le l,r,z,by
  cases e:g v σp h1 with
  | nx σ2 h2=>rw[e] at w;exact w
  | exc x σ2 h2=>rw[e] at w;exact w
  | _=>rw[e] at w;exact w⟩⟩
def mPar (i j:Nat) (m:Mx (List PV)):Mst:=mEx m fun vs σ h=>match vs with
 | [v,w]=>.nx ((σ.set i (some v)).set j (some w)) h
 | _=>.bad
theorem mY (g:Good X N W G k) (i j:Nat) {x y:Str} {a b:Expr} {m:Mx (List PV)} {px py pt pos:Pos} {kt k2:Nat} {pt2:Pos} (hi:N[i]?=some x) (hj:N[j]?=some y) (hij:i≠j) (ha:MA X [a,b] m)
  (hx:X.env.scope.names.lookup x=some .local) (hy:X.env.scope.names.lookup y=some .local)
  (hw:swappedStores [.Tuple [.Name x px,.Name y py] kt pt] (.Tuple [a,b] k2 pt2) X.env=pure (some [x,y]))
  (hs:swapsWithSole [.Tuple [.Name x px,.Name y py] kt pt] (.Tuple [a,b] k2 pt2) pos.line X.env=pure false:=by rfl) :
  MS X (.Assign [.Tuple [.Name x px,.Name y py] kt pt] (.Tuple [a,b] k2 pt2) pos) (mPar i j m) :=
 PS.imp (ps_par g.calm (by rw[g.hN];exact g.nd) (g.x hi) (g.x hj) hij hx hy ha hw hs) fun D σ H ⟨ρ,σp,h,rs,rh,q⟩=>⟨ρ,σp,h,rs,rh,FulS.ex q fun ρ1 H1 v v' h1 l r z w=>by
  cases z with
  | nil=>exact w.elim
  | cons z1 z =>
   cases z with
   | nil=>exact w.elim
   | cons z2 z =>
    cases z with
    | nil=>exact ⟨_,_,rfl,w ρ1 H1 _ (Le.refl _ _) r (((rs.le l).set i z1).set j z2)⟩
    | cons _ _=>exact w.elim⟩
noncomputable def setL (o i v:PV) (h:MH):Option MH:=match o,i with
 | .loc n,.int j=>(match h[n]? with
  | some (.lst xs)=>(ixN xs.length j).map fun p=>h.set n (.lst (xs.set p v))
  | _=>none)
 | _,_=>none
noncomputable def gSb (mo mi:Mx PV):Mg:=fun v=>mEx mo fun o=>mEx mi fun i σ h=>match setL o i v h with
 | some h2=>.nx σ h2
 | none=>.bad
theorem l4 {o i:Expr} {mo mi:Mx PV} {pos:Pos} (ho:ME X o mo) (hi:ME X i mi)
  (ha:∀v,assign (.Subscript o i pos) X.env v=(do
   let ov ←holding [v] (eval o X.env)
   let iv ←holding [v,ov] (eval i X.env)
   standAt pos
   holding [v,ov,iv] (setItem ov iv v)
   release [v,ov,iv] []):=by intro _;rfl):MG X (.Subscript o i pos) (gSb mo mi) :=
 PG.imp (pg_sub ho hi oe ha) fun v' σ H Q ⟨ρ,σp,h,v,rs,rh,rv,q⟩=>by
  refine ⟨ρ,σp,h,rs,rh,?_⟩
  unfold gSb mEx at q
  cases e:mo σp h with
  | exc x h1=>rw[e] at q;exact q
  | bad=>rw[e] at q;exact q
  | ok ov h1 =>
   rw[e] at q
   intro ρ1 H1 o' l1 rh1 ro
   refine ⟨ρ1,σp,h1,rs.le l1,rh1,?_⟩
   dsimp only at q
   cases e2:mi σp h1 with
   | exc x h2=>rw[e2] at q;exact XP.le (X:=X) (σp:=σp) (x:=x) (h:=h2) l1 q
   | bad=>rw[e2] at q;exact q
   | ok iv h2 =>
    rw[e2] at q
    intro ρ2 H2 i' l2 rh2 ri
    dsimp only at q
    have ro2:=ro.le l2
    have rv2:=(rv.le l1).le l2
    unfold setL at q
    cases ro2 with
    | @loc n a en =>
     cases ri with
     | int j =>
      dsimp only at q
      obtain ⟨ob,eo,rob⟩:=rh2.obj en
      rw[eo] at q
      cases ob with
      | dic kvs=>exact q.elim
      | exc x=>exact q.elim
      | lst xs =>
       obtain ⟨ys,ey,ry⟩:=rob
       dsimp only at q
       cases ep:ixN xs.length j with
       | none=>rw[ep] at q;exact q.elim
       | some p =>
        rw[ep] at q
        refine ⟨a,ys,j,p,rfl,rfl,ey,by rw[←ry.length];exact ep,?_⟩
        obtain ⟨r3,l3⟩:=rh2.put en (o:=.lst (xs.set p v)) (ho:=.lst (ys.set p v')) ⟨_,rfl,RPs.set rv2 p ry⟩
        exact q ρ2 _ σ (l1.trans (l2.trans l3)) r3 (rs.le (l1.trans (l2.trans l3)))
     | _=>exact q.elim
    | _=>exact q.elim
structure MIt where
 xs:List PV
 gd:List (Nat × List PV):=[]
def MIt.ok (it:MIt) (h:MH):Prop:=∀p∈it.gd,h[p.1]?=some (.lst p.2)
def JRel (X:Cx):Rl MIt It:=fun ρ0 H0 it J=>∀ρ H h (i:Nat),Le ρ0 H0 ρ H→RH X.K X.mg ρ H h→it.ok h →
 (i<it.xs.length→J.go i H∧∀x' H',J.yld i H x' H'→∃ρ' x,Le ρ H ρ' H'∧RH X.K X.mg ρ' H' h∧it.xs[i]?=some x∧RP X.K ρ' H' x x')∧(it.xs.length≤i→J.stop i H)
def MI (X:Cx) (tg iter:Expr) (m:Mx MIt):Prop:=PI X tg iter (tM X (JRel X) m)
theorem PI.imp {tg e:Expr} {t t':TI} (h:PI X tg e t) (i:∀σ H Q,t' σ H Q→t σ H Q):PI X tg e t':=fun pins s σ H Q I q=>h pins s σ H Q I (i σ H Q q)
noncomputable def mGo (it:MIt) (g:Mg) (b:Mst):List PV→Mst
 | []=>fun σ h=>if it.ok h then .nx σ h else .bad
 | x::r=>fun σ h=>if it.ok h then (match g x σ h with
   | .nx σ1 h1=>(match b σ1 h1 with
    | .nx σ2 h2=>mGo it g b r σ2 h2
    | .ct σ2 h2=>mGo it g b r σ2 h2
    | .bk σ2 h2=>.nx σ2 h2
    | .rt v h2=>.rt v h2
    | .exc e σ2 h2=>.exc e σ2 h2
    | .rse e σ2 h2=>.rse e σ2 h2
    | .bad=>.bad)
   | .exc e σ1 h1=>.exc e σ1 h1
   | _=>.bad) else .bad
noncomputable def mFor (mi:Mx MIt) (g:Mg) (b:Mst):Mst:=mEx mi fun it=>mGo it g b it.xs
theorem gS (gd:Good X N W G k) {tg iter:Expr} {body:List Stmt} {mi:Mx MIt} {g:Mg} {mb:Mst} {pos:Pos} (hi:MI X tg iter mi) (hg:MG X tg g) (hb:MSs X body mb)
  (hs:∀x,foldedSetIterable iter X.env x=pure x:=by intro _;rfl):MS X (.For tg iter body [] pos) (mFor mi g mb):=by
 refine PS.imp (ps_for gd.po gd.calm hi hg hb hs) fun D σ H ⟨ρ,σp,h,rs,rh,q⟩=>⟨ρ,σp,h,rs,rh,FulS.ex q fun ρ1 H1 it J h1 l1 rh1 jr w=>?_⟩
 refine ⟨fun i m σ H=>m=it.xs.length - i∧i≤it.xs.length∧∃ρ σp h,Le ρ1 H1 ρ H∧RS X.K ρ H σp σ∧RH X.K X.mg ρ H h∧FulS X ρ H (mGo it g mb (it.xs.drop i) σp h) D,⟨_,rfl,Nat.zero_le _,ρ1,σp,h1,Le.refl _ _,rs.le l1,rh1,w⟩,?_⟩
 rintro i m σ2 H2 ⟨rfl,hi,ρ2,σp2,h2,l2,rs2,rh2,w2⟩
 by_cases hlt:i<it.xs.length
 ·have ed:it.xs.drop i=it.xs[i]::it.xs.drop (i+1):=List.drop_eq_getElem_cons hlt
  rw[ed] at w2
  unfold mGo at w2
  split at w2
  ·rename_i hok
   obtain ⟨j1,j2⟩:=jr ρ2 H2 h2 i l2 rh2 hok
   obtain ⟨go,yl⟩:=j1 hlt
   refine .inr ⟨go,fun σ3 H3=>∃ρ3 σp3 h3,Le ρ1 H1 ρ3 H3∧RS X.K ρ3 H3 σp3 σ3∧RH X.K X.mg ρ3 H3 h3∧FulS X ρ3 H3 (mGo it g mb (it.xs.drop (i+1)) σp3 h3) D,fun σ3 H3 z=>⟨_,by omega,rfl,hlt,z⟩,fun x' H' y=>?_⟩
   obtain ⟨ρ',x,l',rh',ex,rx⟩:=yl x' H' y
   have ex':x=it.xs[i]:=by rw[List.getElem?_eq_getElem hlt] at ex;exact (Option.some.inj ex).symm
   subst ex'
   refine ⟨ρ',σp2,h2,_,rs2.le l',rh',rx,?_⟩
   have w2':=FulS.le l' w2
   cases eg:g it.xs[i] σp2 h2 with
   | nx σ4 h4 =>
    rw[eg] at w2'
    intro ρ5 H5 σ5 l5 r5 s5
    refine ⟨ρ5,σ4,h4,s5,r5,?_⟩
    have w3:=FulS.le l5 w2'
    have l6:Le ρ1 H1 ρ5 H5:=l2.trans (l'.trans l5)
    dsimp only at w3
    cases em:mb σ4 h4 with
    | nx σ6 h6=>rw[em] at w3;exact fun ρ7 H7 σ7 l7 r7 s7=>⟨ρ7,σ6,h6,l6.trans l7,s7,r7,FulS.le l7 w3⟩
    | ct σ6 h6=>rw[em] at w3;exact fun ρ7 H7 σ7 l7 r7 s7=>⟨ρ7,σ6,h6,l6.trans l7,s7,r7,FulS.le l7 w3⟩
    | bk σ6 h6=>rw[em] at w3;exact w3
    | rt v h6=>rw[em] at w3;exact w3
    | exc e σ6 h6=>rw[em] at w3;exact w3
    | rse e σ6 h6=>rw[em] at w3;exact w3
    | bad=>rw[em] at w3;exact w3
   | exc e σ4 h4=>rw[eg] at w2';exact w2'
   | _=>rw[eg] at w2';exact w2'.elim
  ·exact w2.elim
 ·have e:i=it.xs.length:=by omega
  rw[e,List.drop_length] at w2
  unfold mGo at w2
  split at w2
  ·rename_i hok
   obtain ⟨j1,j2⟩:=jr ρ2 H2 h2 i l2 rh2 hok
   exact .inl ⟨j2 (by omega),w2 ρ2 H2 σ2 (Le.refl _ _) rh2 rs2⟩
  ·exact w2.elim
noncomputable def itSeq (v:PV) (h:MH):Out MIt:=match v with
 | .loc n=>(match h[n]? with
  | some (.lst xs)=>.ok ⟨xs,[(n,xs)]⟩ h
  | _=>.bad)
 | .frl xs=>.ok ⟨xs,[]⟩ h
 | _=>.bad
noncomputable def mItL (m:Mx PV):Mx MIt:=fun σ h=>(m σ h).bind itSeq
theorem k7 {ρ:List Addr} {H:Hp} {a:Addr} {xs:List PV} {gd:List (Nat × List PV)} (hS:∀ρ' H' h,Le ρ H ρ' H'→RH X.K X.mg ρ' H' h→(⟨xs,gd⟩:MIt).ok h→∃ys,SqL X.K H' a ys∧RPs X.K ρ' H' xs ys):JRel X ρ H ⟨xs,gd⟩ (Itl X.K a):=by
 intro ρ' H' h i l rh ok
 obtain ⟨ys,hs,rs⟩:=hS ρ' H' h l rh ok
 refine ⟨fun hi=>?_,fun hi=>⟨ys,hs,by rw[←rs.length];exact hi⟩⟩
 have hx:xs[i]?=some (xs[i]'hi):=List.getElem?_eq_getElem hi
 obtain ⟨y,ey,ry⟩:=rs.get hx
 refine ⟨⟨ys,y,hs,ey⟩,fun x' H2 ⟨e,z⟩=>?_⟩
 subst e
 have:ys[i]?=some x':=z ys hs
 rw[ey] at this;cases this
 exact ⟨ρ',_,Le.refl _ _,rh,hx,ry⟩
theorem mi_list {tg l:Expr} {m:Mx PV} (hl:ME X l m):MI X tg l (mItL m) :=
 PI.imp (pi_list hl) fun σ H Q ⟨ρ,σp,h,rs,rh,q⟩=>⟨ρ,σp,h,rs,rh,Ful.bind q fun ρ1 H1 x x' h1 _ l1 rh1 rx q1=>by
  cases rx with
  | @loc n a e =>
   obtain ⟨ob,eo,rob⟩:=rh1.obj e
   dsimp only[itSeq] at q1
   rw[eo] at q1
   cases ob with
   | dic kvs=>exact q1.elim
   | exc x=>exact q1.elim
   | lst xs =>
    obtain ⟨ys,ey,ry⟩:=rob
    refine ⟨a,rfl,⟨ys,SqL.of ey⟩,q1 ρ1 H1 _ (Le.refl _ _) rh1 (k7 fun ρ' H' h' l rh' ok=>?_)⟩
    obtain ⟨ys',ey',ry'⟩:=rh'.at' n a _ (l.get e) (ok (n,xs) (by simp))
    exact ⟨ys',SqL.of ey',ry'⟩
  | frl s r =>
   exact ⟨_,rfl,⟨_,s.sq⟩,q1 ρ1 H1 _ (Le.refl _ _) rh1 (k7 fun ρ' H' h' l rh' ok=>⟨_,(l.sqf s).sq,r.le l⟩)⟩
  | _=>exact q1.elim⟩
noncomputable def mItT (m:Mx PV):Mx MIt:=fun σ h=>(m σ h).bind fun v h1=>match v with
 | .tup xs=>.ok ⟨xs,[]⟩ h1
 | _=>.bad
theorem mi_tup {tg l:Expr} {m:Mx PV} (hl:ME X l m):MI X tg l (mItT m) :=
 PI.imp (pi_tup hl) fun σ H Q ⟨ρ,σp,h,rs,rh,q⟩=>⟨ρ,σp,h,rs,rh,Ful.bind q fun ρ1 H1 x x' h1 _ l1 rh1 rx q1=>by
  cases rx with
  | @tup xs a ys s r =>
   refine ⟨_,rfl,⟨_,s⟩,q1 ρ1 H1 _ (Le.refl _ _) rh1 ?_⟩
   intro ρ' H' h' i l rh' ok
   have s':=l.sqt s
   have r':=r.le l
   refine ⟨fun hi=>?_,fun hi=>⟨ys,s',by rw[←r.length];exact hi⟩⟩
   have hx:xs[i]?=some (xs[i]'hi):=List.getElem?_eq_getElem hi
   obtain ⟨y,ey,ry⟩:=r'.get hx
   refine ⟨⟨ys,y,s',ey⟩,fun x' H2 ⟨e,z⟩=>?_⟩
   subst e
   have:ys[i]?=some x':=z ys s'
   rw[ey] at this;cases this
   exact ⟨ρ',_,Le.refl _ _,rh',hx,ry⟩
  | _=>exact q1.elim⟩
def aW (lo:Int) (n:Nat):List PV:=(List.range n).map fun (i:Nat)=>PV.int (lo+(i:Int))
theorem lA (lo:Int) (n:Nat):(aW lo n).length=n:=by simp[aW]
theorem Itr_rel {ρ:List Addr} {H:Hp} (lo:Int) (n:Nat):JRel X ρ H ⟨aW lo n,[]⟩ (Itr lo n):=by
 intro ρ' H' h i l rh ok
 have hl:(aW lo n).length=n:=lA lo n
 refine ⟨fun hi=>⟨by rw[hl] at hi;exact hi,fun x' H2 ⟨e1,e2⟩=>?_⟩,fun hi=>by rw[hl] at hi;exact hi⟩
 subst e1;subst e2
 rw[hl] at hi
 exact ⟨ρ',.int (lo+i),Le.refl _ _,rh,by simp[aW,hi],.int _⟩
noncomputable def ca (m:Mx (List PV)):Mx MIt:=fun σ h=>(m σ h).bind fun vs h1=>match vs with
 | [.int j]=>if -(2 ^ 62)≤j∧j<2 ^ 62 then .ok ⟨aW 0 j.toNat,[]⟩ h1 else .bad
 | _=>.bad
theorem bP {tg a:Expr} {m:Mx (List PV)} {p pos:Pos} (hg:Gl X "range") (hm:X.mg "range"=none) (ha:MA X [a] m) (hs:starEach [a] X.env=[(false,eval a X.env)]:=by rfl):MI X tg (.Call (.Name "range" p) [a] [] pos) (ca m):=by
 refine PI.imp (mq hg hm ha hs) fun σ H Q ⟨ρ,σp,h,rs,rh,q⟩=>⟨ρ,σp,h,rs,rh,Ful.bind q fun ρ1 H1 x x' h1 _ l1 rh1 rx q1=>?_⟩
 cases rx with
 | nil=>exact q1.elim
 | cons r1 t1 =>
  cases t1 with
  | nil =>
   cases r1 with
   | int j =>
    dsimp only at q1
    split at q1
    ·rename_i hj
     exact ⟨j,rfl,hj.1,hj.2,q1 ρ1 H1 _ (Le.refl _ _) rh1 (Itr_rel 0 j.toNat)⟩
    ·exact q1.elim
   | _=>exact q1.elim
  | cons r2 t2=>cases r1 <;> exact q1.elim
def mWhN (c:Mx Bool) (b:Mst):Nat→Mst
 | 0=>fun _ _=>.bad
 | n+1=>mEx c fun x=>if x=true then (fun σ h=>match b σ h with
   | .nx σ2 h2=>mWhN c b n σ2 h2
   | .ct σ2 h2=>mWhN c b n σ2 h2
   | .bk σ2 h2=>.nx σ2 h2
   | .rt v h2=>.rt v h2
   | .exc e σ2 h2=>.exc e σ2 h2
   | .rse e σ2 h2=>.rse e σ2 h2
   | .bad=>.bad) else mSkip
noncomputable def mWh (c:Mx Bool) (b:Mst):Mst:=fun σ h=>if z:∃n,mWhN c b n σ h≠.bad then mWhN c b (Classical.choose z) σ h else .bad
theorem fx {c:Mx Bool} {b:Mst}:∀{n:Nat} {σ:PSt} {h:MH},mWhN c b n σ h≠.bad→mWhN c b (n+1) σ h=mWhN c b n σ h
 | 0,_,_,q=>absurd rfl q
 | n+1,σ,h,q=>by
  rw[mWhN] at q
  conv=>lhs;rw[mWhN]
  conv=>rhs;rw[mWhN]
  unfold mEx at q ⊢
  cases e:c σ h with
  | exc x h1=>rfl
  | bad=>rfl
  | ok x h1 =>
   rw[e] at q
   dsimp only at q ⊢
   cases x with
   | false=>rfl
   | true =>
    simp only[if_true] at q ⊢
    cases em:b σ h1 with
    | nx σ2 h2=>rw[em] at q;exact fx q
    | ct σ2 h2=>rw[em] at q;exact fx q
    | _=>rfl
theorem kZ {c:Mx Bool} {b:Mst} {n m:Nat} {σ:PSt} {h:MH} (q:mWhN c b n σ h≠.bad) (l:n≤m):mWhN c b m σ h=mWhN c b n σ h:=by
 induction l with
 | refl=>rfl
 | step l ih=>rw[fx (by rw[ih];exact q),ih]
theorem eR {c:Mx Bool} {b:Mst} {n:Nat} {σ:PSt} {h:MH} (q:mWhN c b n σ h≠.bad):mWh c b σ h=mWhN c b n σ h:=by
 have z:∃n,mWhN c b n σ h≠.bad:=⟨n,q⟩
 unfold mWh
 rw[dif_pos z]
 have q2:=Classical.choose_spec z
 rcases Nat.le_total n (Classical.choose z) with l|l
 ·exact kZ q l
 ·exact (kZ q2 l).symm
theorem gC (gd:Good X N W G k) {c:Expr} {body:List Stmt} {mc:Mx Bool} {mb:Mst} {pos:Pos} (hc:MT X c mc) (hb:MSs X body mb):MS X (.While c body [] pos) (mWh mc mb):=by
 refine PS.imp (oq gd.po hc hb) fun D σ H ⟨ρ,σp,h,rs,rh,q⟩=>?_
 refine ⟨fun m σ H=>∃ρ σp h,RS X.K ρ H σp σ∧RH X.K X.mg ρ H h∧FulS X ρ H (mWhN mc mb m σp h) D,?_,?_⟩
 ·unfold mWh at q
  split at q
  ·exact ⟨_,ρ,σp,h,rs,rh,q⟩
  ·exact q.elim
 ·rintro m σ1 H1 ⟨ρ1,σp1,h1,rs1,rh1,q1⟩
  cases m with
  | zero=>exact q1.elim
  | succ m =>
   rw[mWhN] at q1
   refine ⟨ρ1,σp1,h1,rs1,rh1,FulS.ex q1 fun ρ2 H2 v v' h2 l2 r2 z w=>?_⟩
   cases z
   cases v with
   | false=>rw[if_neg Bool.false_ne_true] at w ⊢;exact w ρ2 H2 σ1 (Le.refl _ _) r2 (rs1.le l2)
   | true =>
    rw[if_pos rfl] at w ⊢
    refine ⟨fun σ H=>∃ρ σp h,RS X.K ρ H σp σ∧RH X.K X.mg ρ H h∧FulS X ρ H (mWhN mc mb m σp h) D,fun σ' H' z=>⟨m,Nat.lt_succ_self _,z⟩,ρ2,σp1,h2,rs1.le l2,r2,?_⟩
    cases em:mb σp1 h2 with
    | nx σ6 h6=>rw[em] at w;exact fun ρ7 H7 σ7 l7 r7 s7=>⟨ρ7,σ6,h6,s7,r7,FulS.le l7 w⟩
    | ct σ6 h6=>rw[em] at w;exact fun ρ7 H7 σ7 l7 r7 s7=>⟨ρ7,σ6,h6,s7,r7,FulS.le l7 w⟩
    | bk σ6 h6=>rw[em] at w;exact w
    | rt v h6=>rw[em] at w;exact w
    | exc e σ6 h6=>rw[em] at w;exact w
    | rse e σ6 h6=>rw[em] at w;exact w
    | bad=>rw[em] at w;exact w
end
section
variable {X:Cx} {N W G:List Str} {k:Nat}
def cq (f:PV→Option PyData):List PV→Option (List PyData)
 | []=>some []
 | x::r=>match f x,cq f r with
  | some d,some ds=>some (d::ds)
  | _,_=>none
def rd:Nat→MH→PV→Option PyData
 | 0,_,v=>(match v with
  | .non=>some .none
  | .bl b=>some (.bool b)
  | .int i=>some (.int i)
  | .str x=>some (.str x)
  | _=>none)
 | n+1,h,v=>(match v with
  | .non=>some .none
  | .bl b=>some (.bool b)
  | .int i=>some (.int i)
  | .str x=>some (.str x)
  | .tup xs=>(cq (rd n h) xs).map PyData.tuple
  | .frl xs=>(cq (rd n h) xs).map PyData.list
  | .loc m=>(match h[m]? with
   | some (.lst xs)=>(cq (rd n h) xs).map PyData.list
   | _=>none))
theorem dh {hp:Heap} {f:PV→Option PyData} {K:PySem.W.Frag} {ρ:List Addr} {H:Hp} (hf:∀v v' u d,RP K ρ H v v'→RelV v' u→f v=some d→∃as,Reads hp u d as) :
  ∀{xs:List PV} {ys:List V} {us:List Value} {ds:List PyData},RPs K ρ H xs ys→Vals ys us→cq f xs=some ds→∃as,ReadsAll hp us ds as
 | _,_,_,ds,.nil,.nil,e=>by cases e;exact ⟨_,.nil⟩
 | _,_,_,ds,.cons r t,.cons v w,e=>by
  simp only[cq] at e
  split at e
  ·rename_i d ds' e1 e2
   cases e
   obtain ⟨a1,q1⟩:=hf _ _ _ _ r v e1
   obtain ⟨a2,q2⟩:=dh hf t w e2
   exact ⟨_,.cons q1 q2⟩
  ·cases e
theorem cr {pins:List (Addr × Obj)} {σ:L2.St} {H:Hp} {s:Shared} {ρ:List Addr} {h:MH} (I:Inv X pins σ H s) (rh:RH X.K X.mg ρ H h) :
  ∀(n:Nat) (v:PV) (v':V) (u:Value) (d:PyData),RP X.K ρ H v v'→RelV v' u→rd n h v=some d→∃as,Reads s.heap u d as
 | 0,_,_,u,d,.non,r,e=>by cases e;cases r;exact ⟨_,.none⟩
 | 0,_,_,u,d,.bl b,r,e=>by cases e;cases r;exact ⟨_,.bool b⟩
 | 0,_,_,u,d,.int i,r,e=>by cases e;obtain ⟨t,rfl⟩:=r;exact ⟨_,.int i t⟩
 | 0,_,_,u,d,.str i,r,e=>by cases e;obtain ⟨t,rfl⟩:=r;exact ⟨_,.str i t⟩
 | 0,_,_,u,d,.tup _ _,r,e=>by cases e
 | 0,_,_,u,d,.frl _ _,r,e=>by cases e
 | 0,_,_,u,d,.loc _,r,e=>by cases e
 | n+1,_,_,u,d,.non,r,e=>by cases e;cases r;exact ⟨_,.none⟩
 | n+1,_,_,u,d,.bl b,r,e=>by cases e;cases r;exact ⟨_,.bool b⟩
 | n+1,_,_,u,d,.int i,r,e=>by cases e;obtain ⟨t,rfl⟩:=r;exact ⟨_,.int i t⟩
 | n+1,_,_,u,d,.str i,r,e=>by cases e;obtain ⟨t,rfl⟩:=r;exact ⟨_,.str i t⟩
 | n+1,.tup xs,_,u,d,.tup (a:=a) s rr,r,e=>by
  cases r
  simp only[rd] at e
  cases q:cq (rd n h) xs with
  | none=>rw[q] at e;cases e
  | some ds =>
   rw[q] at e;cases e
   obtain ⟨its,rv,⟨o,e1,e2,m,e3⟩,_⟩:=I.tuple s
   obtain ⟨as,ra⟩:=dh (cr I rh n) rr rv q
   exact ⟨_,.tuple e1 e2 e3 (by simpa using ra)⟩
 | n+1,.frl xs,_,u,d,.frl (a:=a) s rr,r,e=>by
  cases r
  simp only[rd] at e
  cases q:cq (rd n h) xs with
  | none=>rw[q] at e;cases e
  | some ds =>
   rw[q] at e;cases e
   obtain ⟨its,rv,⟨o,m,e1,e2,_,e3⟩,_⟩:=I.list s.sq
   obtain ⟨as,ra⟩:=dh (cr I rh n) rr rv q
   exact ⟨_,.list e1 e2 e3 (by simpa using ra)⟩
 | n+1,.loc m,_,u,d,.loc (a:=a) en,r,e=>by
  cases r
  simp only[rd] at e
  obtain ⟨ob,eo,rob⟩:=rh.obj en
  rw[eo] at e
  cases ob with
  | dic kvs=>cases e
  | exc x=>cases e
  | lst xs =>
   obtain ⟨ys,ey,ry⟩:=rob
   dsimp only at e
   cases q:cq (rd n h) xs with
   | none=>rw[q] at e;cases e
   | some ds =>
    rw[q] at e;cases e
    obtain ⟨its,rv,⟨o,m',e1,e2,_,e3⟩,_⟩:=I.list (SqL.of (K:=X.K) ey)
    obtain ⟨as,ra⟩:=dh (cr I rh n) ry rv q
    exact ⟨_,.list e1 e2 e3 (by simpa using ra)⟩
noncomputable def opEq (x y:PV) (h:MH):Out PV:=match rd 60 h x,rd 60 h y with
 | some a,some b=>if SeqAt.shaped a=true∧SeqAt.shaped b=true then .ok (.bl (PyData.eqv a b)) h else .bad
 | _,_=>.bad
noncomputable def opNe (x y:PV) (h:MH):Out PV:=match rd 60 h x,rd 60 h y with
 | some a,some b=>if SeqAt.shaped a=true∧SeqAt.shaped b=true then .ok (.bl (!PyData.eqv a b)) h else .bad
 | _,_=>.bad
theorem fc (hr:Room k X.A):OpJ X (compareOp .Eq) opEq:=by
 intro pins s σ H x' y' u v Q I rx' ry' ⟨ρ,h,x,y,rh,rx,ry,q⟩
 unfold opEq at q
 split at q
 ·rename_i a b ea eb
  split at q
  ·rename_i hs
   obtain ⟨_,ra⟩:=cr I rh 60 x x' u a rx rx' ea
   obtain ⟨_,rb⟩:=cr I rh 60 y y' v b ry ry' eb
   exact eq_dataH ra rb hs.1 hs.2 hr.units ⟨.bl _,H,I,rfl,q ρ H _ (Le.refl _ _) rh (.bl _)⟩
  ·exact q.elim
 ·exact q.elim
theorem gb (hr:Room k X.A):OpJ X (compareOp .NotEq) opNe:=by
 intro pins s σ H x' y' u v Q I rx' ry' ⟨ρ,h,x,y,rh,rx,ry,q⟩
 unfold opNe at q
 split at q
 ·rename_i a b ea eb
  split at q
  ·rename_i hs
   obtain ⟨_,ra⟩:=cr I rh 60 x x' u a rx rx' ea
   obtain ⟨_,rb⟩:=cr I rh 60 y y' v b ry ry' eb
   exact ne_dataH ra rb hs.1 hs.2 hr.units ⟨.bl _,H,I,rfl,q ρ H _ (Le.refl _ _) rh (.bl _)⟩
  ·exact q.elim
 ·exact q.elim
def opII (f:Int→Int→PV):PV→PV→MH→Out PV:=fun x y h=>match x,y with
 | .int i,.int j=>.ok (f i j) h
 | _,_=>.bad
theorem ji {F:Value→Value→Sem Value} {f:Int→Int→V} {g:Int→Int→PV} (ho:OpR X F (rI0 f)) (hfg:∀ρ H i j,RP X.K ρ H (g i j) (f i j)):OpJ X F (opII g):=by
 intro pins s σ H x' y' u v Q I rx' ry' ⟨ρ,h,x,y,rh,rx,ry,q⟩
 cases rx with
 | int i =>
  cases ry with
  | int j=>exact ho pins s σ H _ _ u v Q I rx' ry' ⟨i,j,rfl,rfl,q ρ H _ (Le.refl _ _) rh (hfg ρ H i j)⟩
  | _=>exact q.elim
 | _=>cases ry <;> exact q.elim
noncomputable def opLt:=opII fun i j=>.bl (decide (i<j))
noncomputable def opGt:=opII fun i j=>.bl (decide (j<i))
noncomputable def opGe:=opII fun i j=>.bl (decide (j≤i))
theorem jj:OpJ X (compareOp .Lt) opLt:=ji op_lt fun _ _ _ _=>.bl _
theorem oj_gt:OpJ X (compareOp .Gt) opGt:=ji op_gt fun _ _ _ _=>.bl _
theorem oj_ge:OpJ X (compareOp .GtE) opGe:=ji op_ge fun _ _ _ _=>.bl _
noncomputable def opMul (x y:PV) (h:MH):Out PV:=match x,y with
 | .int i,.int j=>if IntMulOk i j then .ok (.int (i * j)) h else .bad
 | .loc n,.int j=>(match h[n]? with
  | some (.lst xs)=>if -(2 ^ 63)≤j∧j<2 ^ 63 then newL (List.flatten (List.replicate j.toNat xs)) h else .bad
  | _=>.bad)
 | _,_=>.bad
noncomputable def opFd (x y:PV) (h:MH):Out PV:=match x,y with
 | .int i,.int j=>if j≠0∧Builtin.divisionGoesByPylong i j=false then .ok (.int (i.fdiv j)) h else .bad
 | _,_=>.bad
noncomputable def opMod (x y:PV) (h:MH):Out PV:=match x,y with
 | .int i,.int j=>if j≠0 then .ok (.int (i.fmod j)) h else .bad
 | _,_=>.bad
noncomputable def opPow (x y:PV) (h:MH):Out PV:=match x,y with
 | .int i,.int j=>if CPow i j then .ok (.int (i ^ j.toNat)) h else .bad
 | _,_=>.bad
noncomputable def opAdd (x y:PV) (h:MH):Out PV:=match x,y with
 | .int i,.int j=>.ok (.int (i+j)) h
 | .str a,.str b=>if a.length+b.length≤sizeLine then .ok (.str (a++b)) h else .bad
 | .loc n,.loc m=>(match h[n]?,h[m]? with
  | some (.lst xs),some (.lst ys)=>newL (xs++ys) h
  | _,_=>.bad)
 | .tup xs,.tup ys=>if xs≠[] then newT (xs++ys) h else .bad
 | _,_=>.bad
noncomputable def opSub:=opII fun i j=>.int (i - j)
def opNeg (x:PV) (h:MH):Out PV:=match x with
 | .int i=>.ok (.int (-i)) h
 | _=>.bad
theorem oj_sub:OpJ X (binaryOp .Sub) opSub:=ji op_sub fun _ _ _ _=>.int _
theorem jA:UnJ X (unaryOp .USub) opNeg:=by
 intro pins s σ H x' u Q I rx' ⟨ρ,h,x,rh,rx,q⟩
 cases rx with
 | int i=>exact un_neg pins s σ H _ u Q I rx' ⟨i,rfl,q ρ H _ (Le.refl _ _) rh (.int _)⟩
 | _=>exact q.elim
theorem fb:OpJ X (binaryOp .FloorDiv) opFd:=by
 intro pins s σ H x' y' u v Q I rx' ry' ⟨ρ,h,x,y,rh,rx,ry,q⟩
 cases rx with
 | int i =>
  cases ry with
  | int j =>
   dsimp only[opFd] at q
   split at q
   ·rename_i hc
    obtain ⟨t,rfl⟩:=rx'
    obtain ⟨t',rfl⟩:=ry'
    exact floordiv_int hc.1 ⟨.int _,H,I.tok _,⟨_,rfl⟩,q ρ H _ (Le.refl _ _) rh (.int _)⟩ (.inl hc.2)
   ·exact q.elim
  | _=>exact q.elim
 | _=>cases ry <;> exact q.elim
theorem bA:OpJ X (binaryOp .Mod) opMod:=by
 intro pins s σ H x' y' u v Q I rx' ry' ⟨ρ,h,x,y,rh,rx,ry,q⟩
 cases rx with
 | int i =>
  cases ry with
  | int j =>
   dsimp only[opMod] at q
   split at q
   ·rename_i hc
    obtain ⟨t,rfl⟩:=rx'
    obtain ⟨t',rfl⟩:=ry'
    exact mod_int' hc ⟨.int _,H,I.tok _,⟨_,rfl⟩,q ρ H _ (Le.refl _ _) rh (.int _)⟩
   ·exact q.elim
  | _=>exact q.elim
 | _=>cases ry <;> exact q.elim
theorem fG:OpJ X (binaryOp .Pow) opPow:=by
 intro pins s σ H x' y' u v Q I rx' ry' ⟨ρ,h,x,y,rh,rx,ry,q⟩
 cases rx with
 | int i =>
  cases ry with
  | int j =>
   dsimp only[opPow] at q
   split at q
   ·rename_i hc
    exact op_pow pins s σ H _ _ u v Q I rx' ry' ⟨i,j,rfl,rfl,hc,q ρ H _ (Le.refl _ _) rh (.int _)⟩
   ·exact q.elim
  | _=>exact q.elim
 | _=>cases ry <;> exact q.elim
theorem ay:OpJ X (binaryOp .Add) opAdd:=by
 intro pins s σ H x' y' u v Q I rx' ry' ⟨ρ,h,x,y,rh,rx,ry,q⟩
 cases rx with
 | int i =>
  cases ry with
  | int j=>exact op_add pins s σ H _ _ u v Q I rx' ry' ⟨i,j,rfl,rfl,q ρ H _ (Le.refl _ _) rh (.int _)⟩
  | _=>exact q.elim
 | str a =>
  cases ry with
  | str b =>
   dsimp only[opAdd] at q
   split at q
   ·rename_i hl
    exact lB pins s σ H _ _ u v Q I rx' ry' ⟨a,b,rfl,rfl,hl,q ρ H _ (Le.refl _ _) rh (.str _)⟩
   ·exact q.elim
  | _=>exact q.elim
 | @loc n a e =>
  cases ry with
  | @loc m b e2 =>
   dsimp only[opAdd] at q
   obtain ⟨o1,h1,r1⟩:=rh.obj e
   obtain ⟨o2,h2,r2⟩:=rh.obj e2
   rw[h1,h2] at q
   cases o1 with
   | dic kvs=>exact q.elim
   | exc x=>exact q.elim
   | lst xs =>
    cases o2 with
    | dic kvs=>exact q.elim
    | exc x=>exact q.elim
    | lst ys =>
     obtain ⟨xs',ex,rx1⟩:=r1
     obtain ⟨ys',ey,ry1⟩:=r2
     obtain ⟨z1,z2⟩:=gc rh (rx1.append ry1) q
     exact op_cat pins s σ H _ _ u v Q I rx' ry' ⟨a,b,xs',ys',rfl,rfl,ex,ey,by rw[←List.length_append];exact z1,z2⟩
  | _=>exact q.elim
 | tup s1 r1 =>
  cases ry with
  | tup s2 r2 =>
   dsimp only[opAdd] at q
   split at q
   ·rename_i hne
    obtain ⟨z1,z2⟩:=kP rh (r1.append r2) q
    refine op_catT pins s σ H _ _ u v Q I rx' ry' ⟨_,_,_,_,rfl,rfl,s1,s2,?_,by rw[←List.length_append];exact z1,fun z=>?_,fun _=>z2⟩
    ·rintro rfl
     cases r1
     exact hne rfl
    ·subst z
     cases r2
     unfold newT at q
     split at q
     ·exact q ρ H _ (Le.refl _ _) rh (by rw[List.append_nil];exact .tup s1 r1)
     ·exact q.elim
   ·exact q.elim
  | _=>exact q.elim
 | _=>cases ry <;> exact q.elim
theorem RPs.rep {K:PySem.W.Frag} {ρ:List Addr} {H:Hp} {xs:List PV} {ys:List V} (r:RPs K ρ H xs ys):∀n:Nat,RPs K ρ H (List.replicate n xs).flatten (List.replicate n ys).flatten
 | 0=>.nil
 | n+1=>by rw[List.replicate_succ,List.replicate_succ,List.flatten_cons,List.flatten_cons];exact r.append (RPs.rep r n)
end
section
variable {X:Cx} {N W G:List Str} {k:Nat}
theorem cE:OpJ X (binaryOp .Mult) opMul:=by
 intro pins s σ H x' y' u v Q I rx' ry' ⟨ρ,h,x,y,rh,rx,ry,q⟩
 cases rx with
 | int i =>
  cases ry with
  | int j =>
   dsimp only[opMul] at q
   split at q
   ·rename_i hc
    obtain ⟨t,rfl⟩:=rx'
    obtain ⟨t',rfl⟩:=ry'
    exact PyProof.Rows.mul_int ⟨.int _,H,I.tok _,⟨_,rfl⟩,q ρ H _ (Le.refl _ _) rh (.int _)⟩ hc
   ·exact q.elim
  | _=>exact q.elim
 | @loc n a e =>
  cases ry with
  | int j =>
   dsimp only[opMul] at q
   obtain ⟨o1,h1,r1⟩:=rh.obj e
   rw[h1] at q
   cases o1 with
   | dic kvs=>exact q.elim
   | exc x=>exact q.elim
   | lst xs =>
    dsimp only at q
    split at q
    ·rename_i hj
     obtain ⟨xs',ex,rx1⟩:=r1
     obtain ⟨z1,z2⟩:=gc rh (rx1.rep j.toNat) q
     refine op_rep pins s σ H _ _ u v Q I rx' ry' ⟨a,j,xs',rfl,rfl,ex,hj.1,hj.2,?_,z2⟩
     rw[kG] at z1
     rw[Nat.mul_comm];exact z1
    ·exact q.elim
  | _=>exact q.elim
 | _=>cases ry <;> exact q.elim
noncomputable def opIx (x y:PV) (h:MH):Out PV:=match y with
 | .int i=>(match x with
  | .loc n=>(match h[n]? with
   | some (.lst xs)=>(match atI xs i with
    | some v=>.ok v h
    | none=>.bad)
   | _=>.bad)
  | .tup xs=>(match atI xs i with
   | some v=>.ok v h
   | none=>.bad)
  | .frl xs=>(match atI xs i with
   | some v=>.ok v h
   | none=>.bad)
  | .str z=>(match atI z.cps.toList i with
   | some c=>if z.length≤sizeLine then .ok (.str ⟨#[c]⟩) h else .bad
   | none=>.bad)
  | _=>.bad)
 | _=>.bad
theorem ir {K:PySem.W.Frag} {ρ:List Addr} {H:Hp} {xs:List PV} {ys:List V} {i:Int} {v:PV} (r:RPs K ρ H xs ys) (e:atI xs i=some v):∃v',atI ys i=some v'∧RP K ρ H v v':=by
 unfold atI at e ⊢
 rw[←r.length]
 cases q:ixN xs.length i with
 | none=>rw[q] at e;cases e
 | some j =>
  rw[q] at e
  exact r.get e
theorem aE {a b:Expr} {ma mb:Mx PV} {pos:Pos} (ha:ME X a ma) (hb:ME X b mb) (hs:kK b):ME X (.Subscript a b pos) (mBin opIx ma mb):=by
 refine PE.imp (pe_ix ix_seq ha hb hs) fun σ H Q q=>?_
 obtain ⟨ρ,σp,h,rs,rh,q⟩:=q
 refine ⟨ρ,σp,h,rs,rh,Ful.bind q fun ρ1 H1 x x' h1 _ l1 rh1 rx q1=>⟨ρ1,σp,h1,rs.le l1,rh1,Ful.bind q1 fun ρ2 H2 y y' h2 _ l2 rh2 ry q2=>?_⟩⟩
 have rx2:=rx.le l2
 cases ry with
 | int i =>
  cases rx2 with
  | @loc n a e =>
   obtain ⟨ob,eo,rob⟩:=rh2.obj e
   dsimp only[opIx] at q2
   rw[eo] at q2
   cases ob with
   | dic kvs=>exact q2.elim
   | exc x=>exact q2.elim
   | lst xs =>
    obtain ⟨ys,ey,rr⟩:=rob
    dsimp only at q2
    cases ea:atI xs i with
    | none=>rw[ea] at q2;exact q2.elim
    | some v =>
     rw[ea] at q2
     obtain ⟨v',e',rv⟩:=ir rr ea
     exact .inl ⟨a,ys,i,v',rfl,rfl,SqL.of ey,e',q2 ρ2 H2 _ (Le.refl _ _) rh2 rv⟩
  | @tup xs a ys s1 rr =>
   dsimp only[opIx] at q2
   cases ea:atI xs i with
   | none=>rw[ea] at q2;exact q2.elim
   | some v =>
    rw[ea] at q2
    obtain ⟨v',e',rv⟩:=ir rr ea
    exact .inr (.inl ⟨_,_,i,v',rfl,rfl,s1,e',q2 ρ2 H2 _ (Le.refl _ _) rh2 rv⟩)
  | @frl xs a ys s1 rr =>
   dsimp only[opIx] at q2
   cases ea:atI xs i with
   | none=>rw[ea] at q2;exact q2.elim
   | some v =>
    rw[ea] at q2
    obtain ⟨v',e',rv⟩:=ir rr ea
    exact .inl ⟨_,_,i,v',rfl,rfl,s1.sq,e',q2 ρ2 H2 _ (Le.refl _ _) rh2 rv⟩
  | str z =>
   dsimp only[opIx] at q2
   cases ea:atI z.cps.toList i with
   | none=>rw[ea] at q2;exact q2.elim
   | some c =>
    rw[ea] at q2
    dsimp only at q2
    split at q2
    ·rename_i hz
     exact .inr (.inr ⟨z,i,c,rfl,rfl,hz,ea,q2 ρ2 H2 _ (Le.refl _ _) rh2 (.str _)⟩)
    ·exact q2.elim
  | _=>exact q2.elim
 | _=>exact q2.elim
def mCB (f:List PV→MH→Out PV) (m:Mx (List PV)):Mx PV:=fun σ h=>(m σ h).bind fun xs h1=>(f xs h1).ne
section
variable {x:Str} {id T:String} {e:Expr} {es:List Expr} {f:List PV→MH→Out PV} {m:Mx (List PV)} {p pos:Pos}
theorem tM_cb {σ:L2.St} {H:Hp} {Q:VK} (q:tM X (RV' X) (mCB f m) σ H Q):tCB (cJ X f) (tM X (RVs' X) m) σ H Q:=by
 obtain ⟨ρ,σp,h,rs,rh,q⟩:=q
 exact ⟨ρ,σp,h,rs,rh,Ful.bind q fun ρ1 H1 x x' h1 _ l1 rh1 rx q1=>⟨ρ1,h1,x,rh1,rx,q1.zero⟩⟩
theorem ba (g:Good X N W G k) (j:Nat) (hj:G[j]?=some x) (hc:dy X (.builtin id) f) (hm:X.mg x=none) (hv:bootBuiltins x=some (.builtin id)) (ha:MA X (e::es) m)
  (he:starEach (e::es) X.env=(false,eval e X.env)::starEach es X.env:=by rfl) (hpl:(backTo pos (starEach es X.env)).any (·.1)=false:=by rfl):ME X (.Call (.Name x p) (e::es) [] pos) (mCB f m) :=
 have d:=g.dbg x (List.mem_append_right _ (aC hj))
 PE.imp (j6 hc (g.gl x (aC hj)) hm hv ha d.2.2 d.1 he hpl) fun _ _ _ q=>tM_cb q
theorem aX (g:Good X N W G k) (j:Nat) (hj:G[j]?=some x) (hc:dy X (.type T) f) (hm:X.mg x=none) (hv:bootBuiltins x=some (.type T)) (ha:MA X (e::es) m)
  (he:starEach (e::es) X.env=(false,eval e X.env)::starEach es X.env:=by rfl) (hpl:(backTo pos (starEach es X.env)).any (·.1)=false:=by rfl):ME X (.Call (.Name x p) (e::es) [] pos) (mCB f m) :=
 have d:=g.dbg x (List.mem_append_right _ (aC hj))
 PE.imp (mS hc (g.gl x (aC hj)) hm hv ha d.2.2 d.1 he hpl) fun _ _ _ q=>tM_cb q
end
def fAbs (xs:List PV) (h:MH):Out PV:=match xs with
 | [.int i]=>.ok (.int (if i<0 then -i else i)) h
 | _=>.bad
def fMin (xs:List PV) (h:MH):Out PV:=match xs with
 | [.int i,.int j]=>.ok (.int (if j<i then j else i)) h
 | _=>.bad
noncomputable def fStr (xs:List PV) (h:MH):Out PV:=match xs with
 | [.int i]=>if i.natAbs.log2<1920 then .ok (.str (toString i)) h else .bad
 | _=>.bad
noncomputable def fLen (xs:List PV) (h:MH):Out PV:=match xs with
 | [.loc n]=>(match h[n]? with
  | some (.lst ys)=>.ok (.int ys.length) h
  | _=>.bad)
 | [.tup ys]=>.ok (.int ys.length) h
 | [.frl ys]=>.ok (.int ys.length) h
 | [.str z]=>if z.length≤sizeLine then .ok (.int z.length) h else .bad
 | _=>.bad
theorem dY:dy X (.builtin "abs") fAbs:=by
 intro pins s σ H xs us Q I r ⟨ρ,h,ps,rh,rp,q⟩
 cases rp with
 | nil=>exact q.elim
 | cons r1 t1 =>
  cases t1 with
  | cons _ _=>cases r1 <;> exact q.elim
  | nil =>
   cases r1 with
   | int i=>exact nT pins s σ H _ us Q I r ⟨i,rfl,q ρ H _ (Le.refl _ _) rh (.int _)⟩
   | _=>exact q.elim
theorem oj {f:List PV→MH→Out PV} {F:Int→Int→Int} {r:List V→Hp→VK→Prop} {V0:Value} (hf:∀i j h,f [.int i,.int j] h=.ok (.int (F i j)) h) (hb:∀xs h,(∀i j,xs≠[.int i,.int j])→f xs h=.bad)
  (hc:cK X V0 (fun xs H Q=>∃i j,xs=[.int i,.int j]∧Q (.int (F i j)) H)):dy X V0 f:=by
 intro pins s σ H xs us Q I r ⟨ρ,h,ps,rh,rp,q⟩
 by_cases z:∃i j,ps=[.int i,.int j]
 ·obtain ⟨i,j,rfl⟩:=z
  cases rp with
  | cons r1 t1=>cases t1 with
   | cons r2 t2 =>
    cases t2
    cases r1
    cases r2
    rw[hf] at q
    exact hc pins s σ H _ us Q I r ⟨i,j,rfl,q ρ H _ (Le.refl _ _) rh (.int _)⟩
 ·rw[hb ps h fun i j e=>z ⟨i,j,e⟩] at q
  exact q.elim
theorem mO (g:Good X N W G k):dy X (.builtin "min") fMin:=oj (r:=fun _ _ _=>True) (F:=fun i j=>if j<i then j else i) (fun _ _ _=>rfl) (fun xs h z=>by unfold fMin;split <;> first | rfl | exact absurd rfl (z _ _)) (lO g.calm)
theorem dq:dy X (.type "str") fStr:=by
 intro pins s σ H xs us Q I r ⟨ρ,h,ps,rh,rp,q⟩
 cases rp with
 | nil=>exact q.elim
 | cons r1 t1 =>
  cases t1 with
  | cons _ _=>cases r1 <;> exact q.elim
  | nil =>
   cases r1 with
   | int i =>
    dsimp only[fStr] at q
    split at q
    ·rename_i hz
     exact jN pins s σ H _ us Q I r ⟨i,rfl,hz,q ρ H _ (Le.refl _ _) rh (.str _)⟩
    ·exact q.elim
   | _=>exact q.elim
theorem kc:dy X (.builtin "len") fLen:=by
 intro pins s σ H xs us Q I r ⟨ρ,h,ps,rh,rp,q⟩
 cases rp with
 | nil=>exact q.elim
 | cons r1 t1 =>
  cases t1 with
  | cons _ _=>cases r1 <;> exact q.elim
  | nil =>
   cases r1 with
   | @loc n a e =>
    obtain ⟨ob,eo,rob⟩:=rh.obj e
    dsimp only[fLen] at q
    rw[eo] at q
    cases ob with
    | dic kvs=>exact q.elim
    | exc x=>exact q.elim
    | lst xs =>
     obtain ⟨ys,ey,rr⟩:=rob
     exact fe pins s σ H _ us Q I r ⟨_,_,rfl,.inl ⟨ys,SqL.of ey,rfl⟩,by rw[←rr.length];exact q ρ H _ (Le.refl _ _) rh (.int _)⟩
   | tup s1 rr=>exact fe pins s σ H _ us Q I r ⟨_,_,rfl,.inr ⟨_,s1,rfl⟩,by rw[←rr.length];exact q ρ H _ (Le.refl _ _) rh (.int _)⟩
   | frl s1 rr=>exact fe pins s σ H _ us Q I r ⟨_,_,rfl,.inl ⟨_,s1.sq,rfl⟩,by rw[←rr.length];exact q ρ H _ (Le.refl _ _) rh (.int _)⟩
   | str z =>
    dsimp only[fLen] at q
    split at q
    ·rename_i hz
     exact fe pins s σ H _ us Q I r ⟨_,_,rfl,⟨hz,rfl⟩,q ρ H _ (Le.refl _ _) rh (.int _)⟩
    ·exact q.elim
   | _=>exact q.elim
end
section
variable {X:Cx} {N W G:List Str} {k:Nat}
def tyP (h:MH):PV→Option String
 | .non=>some "NoneType"
 | .bl _=>some "bool"
 | .int _=>some "int"
 | .str _=>some "str"
 | .tup _=>some "tuple"
 | .frl _=>some "list"
 | .loc n=>match h[n]? with
  | some (.lst _)=>some "list"
  | some (.dic _)=>some "dict"
  | _=>none
def isaT (t:String) (T:String):Bool:=t == T || (t == "bool" && T == "int")
def fIsi (Ts:List String) (x:PV) (h:MH):Out PV:=match tyP h x with
 | some t=>.ok (.bl (Ts.any (isaT t))) h
 | none=>.bad
def okT (T:String):Prop:=∀K:PySem.W.Frag,∀t∈["NoneType","bool","int","str","tuple","list","dict"],PySem.W.kitOne K (.type t) (.type T)=some (isaT t T)
theorem jp {T:String} (h1:∀K,PySem.W.kitOne K (.type "NoneType") (.type T)=some (isaT "NoneType" T)) (h2:∀K,PySem.W.kitOne K (.type "bool") (.type T)=some (isaT "bool" T)) (h3:∀K,PySem.W.kitOne K (.type "int") (.type T)=some (isaT "int" T))
  (h4:∀K,PySem.W.kitOne K (.type "str") (.type T)=some (isaT "str" T)) (h5:∀K,PySem.W.kitOne K (.type "tuple") (.type T)=some (isaT "tuple" T)) (h6:∀K,PySem.W.kitOne K (.type "list") (.type T)=some (isaT "list" T))
  (h7:∀K,PySem.W.kitOne K (.type "dict") (.type T)=some (isaT "dict" T)):okT T:=by
 intro K t ht
 simp only[List.mem_cons,List.not_mem_nil,or_false] at ht
 rcases ht with rfl|rfl|rfl|rfl|rfl|rfl|rfl
 ·exact h1 K
 ·exact h2 K
 ·exact h3 K
 ·exact h4 K
 ·exact h5 K
 ·exact h6 K
 ·exact h7 K
theorem okT_int:okT "int":=jp (fun _=>rfl) (fun _=>rfl) (fun _=>rfl) (fun _=>rfl) (fun _=>rfl) (fun _=>rfl) (fun _=>rfl)
theorem nG:okT "bool":=jp (fun _=>rfl) (fun _=>rfl) (fun _=>rfl) (fun _=>rfl) (fun _=>rfl) (fun _=>rfl) (fun _=>rfl)
theorem okT_str:okT "str":=jp (fun _=>rfl) (fun _=>rfl) (fun _=>rfl) (fun _=>rfl) (fun _=>rfl) (fun _=>rfl) (fun _=>rfl)
theorem kitx_of {pins:List (Addr × Obj)} {σ:L2.St} {H:Hp} {s:Shared} {ρ:List Addr} {h:MH} {x:PV} {x':V} {u:Value} {t:String} (I:Inv X pins σ H s) (rh:RH X.K X.mg ρ H h) (rx:RP X.K ρ H x x') (ru:RelV x' u) (e:tyP h x=some t) :
  t∈["NoneType","bool","int","str","tuple","list","dict"]∧u≠.builtin "__main__.__loader__#opaque"∧∃Hq,PySem.W.KitX X.K u (.type t) Hq∧Hq s.heap:=by
 cases rx with
 | non=>cases e;cases ru;exact ⟨by simp,(fun z=>nomatch z),_,PySem.W.kitx_none,trivial⟩
 | bl b=>cases e;cases ru;exact ⟨by simp,(fun z=>nomatch z),_,PySem.W.kitx_bool,trivial⟩
 | int i=>cases e;obtain ⟨t,rfl⟩:=ru;exact ⟨by simp,(fun z=>nomatch z),_,PySem.W.kitx_int,trivial⟩
 | str i=>cases e;obtain ⟨t,rfl⟩:=ru;exact ⟨by simp,(fun z=>nomatch z),_,PySem.W.kitx_str,trivial⟩
 | tup s1 r1 =>
  cases e;cases ru
  obtain ⟨its,rv,⟨o,e1,e2,_⟩,_⟩:=I.tuple s1
  exact ⟨by simp,(fun z=>nomatch z),_,PySem.W.kitx_tuple,⟨o,e1,e2⟩⟩
 | frl s1 r1 =>
  cases e;cases ru
  obtain ⟨its,rv,⟨o,m,e1,e2,_,e3⟩,_⟩:=I.list s1.sq
  exact ⟨by simp,(fun z=>nomatch z),_,PySem.W.kitx_list,⟨o,e1,e2⟩⟩
 | @loc n a en =>
  obtain ⟨ob,eo,rob⟩:=rh.obj en
  dsimp only[tyP] at e
  rw[eo] at e
  cases ru
  cases ob with
  | lst xs =>
   cases e
   obtain ⟨ys,ey,_⟩:=rob
   obtain ⟨its,rv,⟨o,m,e1,e2,_,e3⟩,_⟩:=I.list (SqL.of (K:=X.K) ey)
   exact ⟨by simp,(fun z=>nomatch z),_,PySem.W.kitx_list,⟨o,e1,e2⟩⟩
  | dic kvs =>
   cases e
   obtain ⟨_,ey⟩:=rob
   obtain ⟨_,_,vs,_,p⟩:=(show ObjOk X.prog X.w H s.heap a (.dK []) from I.hok a _ ey)
   obtain ⟨o,es,ep,h1,h2,_⟩:=p
   exact ⟨by simp,(fun z=>nomatch z),_,PySem.W.kitx_dict,⟨o,h1,h2.1⟩⟩
  | exc x=>cases e
theorem kg (g:Good X N W G k) {a:Expr} {m:Mx PV} {T:String} {c:Str} {i j:Nat} {p q pos:Pos} (hi:G[i]?=some "isinstance") (hm:X.mg "isinstance"=none) (hj:G[j]?=some c) (hc:X.mg c=none) (hv:bootBuiltins c=some (.type T)) (hT:okT T) (ha:ME X a m)
  (he:starEach [a,.Name c q] X.env=(false,eval a X.env)::starEach [.Name c q] X.env:=by rfl) (he2:starEach [.Name c q] X.env=[(false,eval (.Name c q) X.env)]:=by rfl) (hpl:(backTo pos (starEach [.Name c q] X.env)).any (·.1)=false:=by rfl) :
  ME X (.Call (.Name "isinstance" p) [a,.Name c q] [] pos) (mUn (fIsi [T]) m):=by
 have d1:=g.dbg _ (List.mem_append_right _ (aC hi))
 have d:=g.dbg c (List.mem_append_right _ (aC hj))
 have hcall:cK X (.builtin "isinstance") (fun xs H Q=>∃x',xs=[x',.ty T]∧uJ X (fIsi [T]) x' H Q):=by
  intro pins s σ H xs us Q I r ⟨x',e,ρ,h,x,rh,rx,q⟩
  subst e
  cases r with
  | cons r1 t1=>cases t1 with
   | cons r2 t2 =>
    cases t2
    obtain rfl:=(show _=Value.type T from r2)
    unfold fIsi at q
    cases et:tyP h x with
    | none=>rw[et] at q;exact q.elim
    | some t =>
     rw[et] at q
     obtain ⟨ht,hne,Hq,Z,hz⟩:=kitx_of I rh rx r1 et
     exact PySem.W.kia_one Z I.kIn hz (hT X.K t ht) hne fun tk=>⟨.bl _,H,I.tok _,rfl,by
      have q':=q ρ H _ (Le.refl _ _) rh (.bl _)
      simpa using q'⟩
 refine PE.imp (j6 hcall (g.gl _ (aC hi)) hm PyProof.Rows.Boot.«isinstance» (ig ha (ig (pe_bltn (v:=.ty T) (u:=.type T) (g.gl c (aC hj)) hc hv rfl d.2.2 d.1) m6 he2) he) d1.2.2 d1.1 he hpl) fun σ H Q ⟨ρ,σp,h,rs,rh,q⟩=>?_
 exact ⟨ρ,σp,h,rs,rh,Ful.bind q fun ρ1 H1 x x' h1 _ l1 rh1 rx q1=>⟨x',rfl,ρ1,h1,x,rh1,rx,q1.zero⟩⟩
def spM (K:PySem.W.Frag) (mg:MGl) (F:List PV→MH→Out PV):Sp:=fun vs H Q E=>∃ρ ps h,RPs K ρ H ps vs∧RH K mg ρ H h∧match F ps h with
 | .ok v h'=>∀ρ' H' v',Le ρ H ρ' H'→RH K mg ρ' H' h'→RP K ρ' H' v v'→Q v' H'
 | .exc x h'=>∀C ρ' H',x.fs=[]→mg x.cls=some (.ref C)→Le ρ H ρ' H'→RH K mg ρ' H' h'→E (.ref C) none H'
 | .bad=>False
def CXm (P:Program) (w:World):CXT:=fun outer H s E e s'=>∃ea C H',e=.ref ea∧s'.os=s.os∧AllBare s'.gens∧Un (frs outer) [] H H' s.heap s'.heap∧HOk P w H' s'.heap∧Fly outer H' s.heap C ea s'.heap∧E (.ref C) none H'
structure Cal (X:Cx) (x:Str) (ps:List Str) (F:List PV→MH→Out PV) (k:Nat):Prop where
 ex:∃f fd,X.mg x=some (.ref f)∧PySem.W.keepIn X.K (.ref f)=true∧gO X.K fd ps []∧FnOk X.prog X.w X.K X.mg X.base (CXm X.prog X.w) k f fd ps (spM X.K X.mg F)
theorem Cal.to {Y:Cx} {x:Str} {ps:List Str} {F:List PV→MH→Out PV} {i:Nat} (c:Cal X x ps F i) (e1:Y.prog=X.prog) (e2:Y.w=X.w) (e3:Y.K=X.K) (e4:Y.mg=X.mg) (e5:Y.base=X.base):Cal Y x ps F i:=by
 obtain ⟨f,fd,a,b,d,e⟩:=c.ex
 refine ⟨f,fd,by rw[e4];exact a,by rw[e3];exact b,by rw[e3];exact d,?_⟩
 rw[e1,e2,e3,e4,e5];exact e
def aq (F:List PV→MH→Out PV) (m:Mx (List PV)):Mx PV:=fun σ h=>(m σ h).bind F
theorem al (g:Good X N W G k) {x:Str} {j:Nat} (hj:G[j]?=some x) {ps:List Str} {F:List PV→MH→Out PV} (C:Cal X x ps F k) {e:Expr} {es:List Expr} {m:Mx (List PV)} {p pos:Pos} (ha:MA X (e::es) m)
  (he:starEach (e::es) X.env=(false,eval e X.env)::starEach es X.env:=by rfl) (hpl:(backTo pos (starEach es X.env)).any (·.1)=false:=by rfl):ME X (.Call (.Name x p) (e::es) [] pos) (aq F m):=by
 obtain ⟨f,fd,hm,hk,hb,F'⟩:=C.ex
 have d:=g.dbg x (List.mem_append_right _ (aC hj))
 intro pins s σ H Q I ⟨ρ,σp,h,rs,rh,q⟩
 refine wpAny_Call_Name_kw (k6 I (g.gl x (aC hj)) hm ?_ d.1)
 refine PySem.W.callWith_K (h₀:=X.base) I.ok.mod.kin hk (thn (ha pos pins s σ H (fun vs H1=>∃ρ1 xs h1,Le ρ H ρ1 H1∧RH X.K X.mg ρ1 H1 h1∧RPs X.K ρ1 H1 xs vs∧Ful X (RV' X) σp ρ1 H1 (F xs h1) Q) I
  ⟨ρ,σp,h,rs,rh,Ful.bind q fun ρ1 H1 xs vs h1 _ l1 rh1 rx q1=>⟨ρ1,xs,h1,l1,rh1,rx,q1⟩⟩) fun us s1 ⟨vs,H1,I1,r,ρ1,xs,h1,l1,rh1,rx,q1⟩=>⟨I1.kIn,?_⟩) he hpl
 have run:∀E:XK,spM X.K X.mg F vs H1 Q E→(∀ea C H' s',s'.os=s1.os→AllBare s'.gens→Un (frs X.stack) [] H1 H' s1.heap s'.heap→HOk X.prog X.w H' s'.heap→Fly X.stack H' s1.heap C ea s'.heap→E (.ref C) none H'→X.xe (.ref ea) s') →
   wpAny (model X.prog X.w) X.A (call (.ref f) us) (EP X pins σ Q) X.xe s1:=fun E hsp hE=>by
  have hl:(us++[]).length=ps.length:=by rw[List.append_nil,←r.length];exact F'.len _ _ _ _ hsp
  have hb1:=hb s1 us I1.kIn hl
  rw[List.append_nil] at hb1
  refine wpAny_call (codeAny_mono (F'.run X.A X.stack s1 H1 ⟨us,[]⟩ us vs Q E g.room I1.env0 hb1 r hsp) fun r s' hq=>?_)
  cases r with
  | error e =>
   obtain ⟨ea,C,H',rfl,a1,a2,a3,a4,a5,a6⟩:=hq
   exact hE ea C H' s' a1 a2 a3 a4 a5 a6
  | ok fl =>
   cases fl with
   | ret u=>exact I1.after hq
   | next=>exact False.elim hq
   | brk=>exact False.elim hq
   | cont=>exact False.elim hq
 cases eF:F xs h1 with
 | bad=>rw[eF] at q1;exact q1.elim
 | ok v h' =>
  rw[eF] at q1
  exact run (fun _ _ _=>False) ⟨ρ1,xs,h1,rx,rh1,by rw[eF];exact q1⟩ fun _ _ _ _ _ _ _ _ _ z=>z.elim
 | exc x' h' =>
  rw[eF] at q1
  refine run (fun c _ H'=>∃C ρ',c=.ref C∧x'.fs=[]∧X.mg x'.cls=some (.ref C)∧Le ρ1 H1 ρ' H'∧RH X.K X.mg ρ' H' h') ⟨ρ1,xs,h1,rx,rh1,by rw[eF];exact fun C ρ' H' a b c d=>⟨C,ρ',rfl,a,b,c,d⟩⟩ fun ea C H' s' a1 a2 a3 a4 a5 a6=>?_
  obtain ⟨C',ρ',eC,b1,b2,b3,b4⟩:=a6
  cases eC
  have IX:=I1.call' (s':=s') (ch:=[]) a1 a3 a4 a2 (fun b z=>absurd z (by simp))
  have IX0:Inv X [] σ H' s':=Inv.unpinned (pins:=[]) (pl:=pins) IX
  exact q1 ea C ρ' H' σ s' s1.heap b1 b2 b3 b4 (rs.le (l1.trans b3)) IX0 (Inv.bears I1) a5
def be (n:Nat) (ps:List PV):PSt:=ps.map some++List.replicate (n - ps.length) none
noncomputable def mDef (n np:Nat) (m:Mst):List PV→MH→Out PV:=fun ps h=>if ps.length=np then (match m (be n ps) h with
 | .nx _ h'=>.ok .non h'
 | .rt v h'=>.ok v h'
 | .exc x _ h'=>.exc x h'
 | .rse x _ h'=>.exc x h'
 | _=>.bad) else .bad
theorem nq {K:PySem.W.Frag} {ρ:List Addr} {H:Hp} {N:List Str} {ps:List PV} {vs:List V} (r:RPs K ρ H ps vs):RS K ρ H (be N.length ps) (L2.start N vs):=by
 have hl:=r.length
 refine ⟨by simp[be,L2.start,hl],fun i v e=>?_⟩
 unfold be at e
 by_cases hi:i<ps.length
 ·rw[List.getElem?_append_left (by simpa using hi),List.getElem?_map] at e
  cases q:ps[i]? with
  | none=>rw[q] at e;cases e
  | some x =>
   rw[q] at e
   cases e
   obtain ⟨v',e',rv⟩:=r.get q
   refine ⟨v',?_,rv⟩
   unfold L2.start
   rw[List.getElem?_append_left (by simp;omega),List.getElem?_map,e'];rfl
 ·rw[List.getElem?_append_right (by simpa using hi),List.getElem?_replicate] at e
  split at e <;> cases e
theorem nN {B h:Heap} (k:B.StaysIn h) {b:Addr} {o ob:Obj} (e1:B.get? b=some ob) (e2:h.get? b=some o):ob=o:=by
 have:=k b ob e1
 rw[e2] at this
 exact (Option.some.inj this).symm
theorem lb {X:Cx} {σ':L2.St} {H':Hp} {s':Shared} {h' B:Heap} (I:Inv X [] σ' H' s') (hex:X.ex=[]) (hB:B.StaysIn s'.heap) (hB':B.StaysIn h') (sm:s'.heap.UpToSlots h')
  (cov:∀b o,X.s₀.heap.get? b=some o→b∉X.fs→∃ob,B.get? b=some ob) (cvH:∀b o,H' b=some o→∃ob,B.get? b=some ob):Un X.fs [] X.H₀ H' X.s₀.heap h'∧HOk X.prog X.w H' h':=by
 have nex:∀b:Addr,b∉X.ex:=fun b=>by rw[hex];simp
 have kp:∀b o ob,B.get? b=some ob→s'.heap.get? b=some o→h'.get? b=some o:=fun b o ob e1 e2=>by
  have:=nN hB e1 e2
  subst this
  exact hB' b ob e1
 refine ⟨⟨fun b o e n hf _=>?_,fun b o e n hf _=>?_,fun b o e n _=>I.base.free b o e n (nex b),fun b o e _=>?_,I.base.tups,I.base.frzs,I.base.tbls⟩,fun a o e=>?_⟩
 ·obtain ⟨ob,eb⟩:=cov b o e hf
  exact kp b o ob eb (I.base.keep b o e n hf (nex b))
 ·obtain ⟨sl,e1⟩:=I.base.slot b o e n hf (nex b)
  obtain ⟨_,oF,eF,dF⟩:=I.ok.funs.mem hf
  rw[e] at eF
  cases eF
  obtain ⟨sl',e2⟩:=sm b _ e1 (fun vs z=>dF vs z)
  exact ⟨sl',e2⟩
 ·by_cases hf:b∈X.fs
  ·obtain ⟨_,oF,eF,dF⟩:=I.ok.funs.mem hf
   rw[e] at eF
   cases eF
   obtain ⟨sl,e1⟩:=I.base.slot b o e (I.ok.frf b hf) hf (nex b)
   obtain ⟨sl',e2⟩:=sm b _ e1 (fun vs z=>dF vs z)
   exact ⟨_,e2⟩
  ·obtain ⟨ob,eb⟩:=cov b o e hf
   exact ⟨ob,hB' b ob eb⟩
 ·refine (I.hok a o e).stay (fun b u hb z=>?_) (fun _ z=>z) fun _ _ z=>z
  rcases hb with rfl|hb
  ·obtain ⟨ob,eb⟩:=cvH _ _ e
   exact kp _ u ob eb z
  ·obtain ⟨ob,eb⟩:=cvH _ _ hb
   exact kp _ u ob eb z
theorem _root_.L2.ObjOk.has {P:Program} {w:World} {H:Hp} {h:Heap} {a:Addr} {o:HO} (x:ObjOk P w H h a o):∃u,h.get? a=some u:=by
 cases o with
 | lst xs=>obtain ⟨_,_,_,_,e⟩:=x;exact ⟨_,e⟩
 | tup xs=>obtain ⟨_,_,_,o,e,_⟩:=x;exact ⟨o,e⟩
 | dK kvs=>obtain ⟨_,_,_,_,o,_,_,e,_⟩:=x;exact ⟨o,e⟩
 | dT kvs=>obtain ⟨_,_,_,_,o,_,_,e,_⟩:=x;exact ⟨o,e⟩
 | set S n=>obtain ⟨o,_,_,_,e,_⟩:=x;exact ⟨o,e⟩
 | ins C dx fs=>obtain ⟨_,_,_,e,_⟩:=x;exact ⟨_,e⟩
 | own y=>obtain ⟨o,e⟩:=x;exact ⟨o,e⟩
 | xd fs=>obtain ⟨_,⟨o,_,_,e,_⟩,_⟩:=x;exact ⟨o,e⟩
 | rng lo hi=>obtain ⟨_,_,_,e⟩:=x;exact ⟨_,e⟩
 | frz ob u=>obtain ⟨e,_⟩:=x;exact ⟨_,e⟩
 | tbl ps=>exact ⟨_,(show h.get? a=some _ from x)⟩
 | met f y=>exact ⟨_,(show h.get? a=some _ from x)⟩
 | ext φ=>obtain ⟨_,⟨o,e⟩,_⟩:=x;exact ⟨o,e⟩
structure DefCx (X:Cx):Prop where
 stk:X.stack=X.env::X.outer
 fr:X.env.frame=some X.env.locals
 ex:X.ex=[]
theorem fn_M {P:Program} {w:World} {K:PySem.W.Frag} {mg:Str→Option Value} {base:Heap} {x qual:Str} {st:Stmt} {f:Addr} {fd:FuncData} {ps:List Str} {m:Mst} (Fu:Fun K x qual st f fd) (S:FnScope N ps (ai st))
  (hl:∀y∈N,Loc (ai st) y) (hgl:∀y∈G,(ai st).names.lookup y=some .globalImplicit)
  (dbg:∀x∈N++G,(x == ("__debug__":Str))=false∧(x == ("__classdict__":Str))=false∧x≠"__name__")
  (hb:∀X:Cx,X.prog=P→X.w=w→X.K=K→X.mg=mg→X.base=base→X.env.scope=ai st→Good X N N G k→DefCx X→MSs X (au st) m) :
  FnOk P w K mg base (CXm P w) (k+1) f fd ps (spM K mg (mDef N.length ps.length m)):=by
 have len:∀vs H Q E,spM K mg (mDef N.length ps.length m) vs H Q E→vs.length=ps.length:=by
  rintro vs H Q E ⟨ρ,zs,h,r,rh,q⟩
  rw[←r.length]
  unfold mDef at q
  by_cases hp:zs.length=ps.length
  ·exact hp
  ·rw[if_neg hp] at q;exact q.elim
 obtain ⟨oc,od,kV,doc,pm,an,cdv,ct,osl,rfl,lk,hcd⟩:=Fu.ex
 refine fn_of lk hcd S len fun A outer s H vs Q E hr hsp=>?_
 obtain ⟨ρ,zs,h,r,rh,q⟩:=hsp
 refine ⟨_,hb _ rfl rfl rfl rfl rfl rfl ⟨rfl,S.nd,hl,fun _ _=>.inl rfl,hgl,dbg,rfl,hr,PassesOwn.leaving⟩ ⟨rfl,rfl,rfl⟩,ρ,be N.length zs,h,nq r,rh,?_⟩
 unfold mDef at q
 by_cases hp:zs.length=ps.length
 ·rw[if_pos hp] at q
  cases e:m (be N.length zs) h with
  | nx σ' h'=>rw[e] at q;exact fun ρ' H' σ' l r' s'=>q ρ' H' .non l r' .non
  | rt v h'=>rw[e] at q;exact q
  | bk σ h'=>rw[e] at q;exact q.elim
  | ct σ h'=>rw[e] at q;exact q.elim
  | bad=>rw[e] at q;exact q.elim
  | exc x σ h' =>
   rw[e] at q
   intro ea C ρ' H' σ' s' lim hfs hmg l rh' rs' I' brs fly
   obtain ⟨B,t,hfl,hBH,hcov,hea⟩:=fly
   refine wpAny_leaves_onW (base:=B) (env:=envOfC qual (ai st) s.heap.objs.size f cdv) (outer:=outer) I'.ok.frames rfl hfl fun h'' hfl' sm=>?_
   have hb1:∀b o,s.heap.get? b=some o→b∉frs outer→∃ob,B.get? b=some ob:=fun b o eb hf=>by
    obtain ⟨o',e'⟩:=brs.old b o eb (by show b∉([]:List Addr);simp)
    refine hcov b o' e' fun hm=>?_
    rcases List.mem_cons.mp (I'.stkSub b hm) with z|z
    ·exact absurd (Heap.lt_size eb) (by rw[z];exact Nat.lt_irrefl _)
    ·exact hf z
   obtain ⟨un,hk'⟩:=lb (B:=B) I' rfl hfl.1 hfl'.1 sm hb1 hBH
   exact ⟨ea,C,H',rfl,I'.os,I'.bare,un,hk',⟨B,t,hfl',hBH,hb1,hea⟩,q C ρ' H' hfs hmg l rh'⟩
  | rse x σ h' =>
   rw[e] at q
   intro ea C ρ' H' σ' s' h0 args hfs hmg l rh' rs' I' made
   have hst:=I'.stack
   have hin:∀env∈(envOfC qual (ai st) s.heap.objs.size f cdv::outer),∀b,env.frame=some b→b∈frs (envOfC qual (ai st) s.heap.objs.size f cdv::outer):=fun env he b hb=>List.mem_filterMap.mpr ⟨env,he,hb⟩
   refine wpAny_leaves_madeW (base:=PySem.W.hideAll h0 (frs (envOfC qual (ai st) s.heap.objs.size f cdv::outer))) (h:=h0) (env:=envOfC qual (ai st) s.heap.objs.size f cdv) (outer:=outer) I'.ok.frames rfl (fun b o z=>PySem.W.of_hideAll _ z)
    (PySem.W.funFrames_hide (base:=base) hst hin) made fun h'' t hfl' _ _ sm=>?_
   have sub:∀b,b∈frs (envOfC qual (ai st) s.heap.objs.size f cdv::outer)→b=s.heap.objs.size∨b∈frs outer:=fun b hm=>List.mem_cons.mp (I'.stkSub b hm)
   have hb1:∀b o,s.heap.get? b=some o→b∉frs outer→∃ob,(PySem.W.hideAll h0 (frs (envOfC qual (ai st) s.heap.objs.size f cdv::outer))).get? b=some ob:=fun b o eb hf=>by
    obtain ⟨o',e'⟩:=I'.base.there b o eb (by show b∉([]:List Addr);simp)
    refine ⟨o',PySem.W.hideAll_get _ e' fun hm=>?_⟩
    rcases sub b hm with z|z
    ·exact absurd (Heap.lt_size eb) (by rw[z];exact Nat.lt_irrefl _)
    ·exact hf z
   have hBH:∀b o,H' b=some o→∃ob,(PySem.W.hideAll h0 (frs (envOfC qual (ai st) s.heap.objs.size f cdv::outer))).get? b=some ob:=fun b o eb=>by
    have hlt:=I'.hok.lt eb
    obtain ⟨u,eu⟩:∃u,h0.get? b=some u:=(I'.hok b o eb).has
    refine ⟨u,PySem.W.hideAll_get _ eu fun hm=>?_⟩
    have:=I'.stkFree b hm
    rw[eb] at this;cases this
   have sm0:h0.UpToSlots h'':=(Heap.UpToSlots.of_keeps made.keeps).trans sm
   obtain ⟨un,hk'⟩:=lb (B:=PySem.W.hideAll h0 (frs (envOfC qual (ai st) s.heap.objs.size f cdv::outer))) I' rfl (fun b o z=>PySem.W.of_hideAll _ z) hfl'.1 sm0 hb1 hBH
   have hea:H' ea=none:=by
    cases z:H' ea with
    | none=>rfl
    | some o =>
     obtain ⟨u,eu⟩:=(I'.hok ea o z).has
     rw[made.new] at eu;cases eu
   exact ⟨ea,C,H',rfl,I'.os,I'.bare,un,hk',⟨_,t,hfl',hBH,hb1,hea⟩,q C ρ' H' hfs hmg l rh'⟩
 ·rw[if_neg hp] at q;exact q.elim
noncomputable def itAny (v:PV) (h:MH):Out MIt:=match v with
 | .loc n=>(match h[n]? with
  | some (.lst xs)=>.ok ⟨xs,[(n,xs)]⟩ h
  | _=>.bad)
 | .frl xs=>.ok ⟨xs,[]⟩ h
 | .tup xs=>.ok ⟨xs,[]⟩ h
 | _=>.bad
noncomputable def mItS (m:Mx PV):Mx MIt:=fun σ h=>(m σ h).bind itAny
theorem fV {tg l:Expr} {m:Mx PV} (hl:ME X l m):MI X tg l (mItS m):=by
 intro pins s σ H R I ⟨ρ,σp,h,rs,rh,q⟩
 by_cases z:∃xs h1,m σp h=.ok (.tup xs) h1
 ·obtain ⟨xs,h1,e⟩:=z
  refine mi_tup (tg:=tg) hl pins s σ H R I ⟨ρ,σp,h,rs,rh,?_⟩
  unfold mItS at q
  unfold mItT
  rw[e] at q ⊢
  exact q
 ·refine mi_list (tg:=tg) hl pins s σ H R I ⟨ρ,σp,h,rs,rh,?_⟩
  unfold mItS at q
  unfold mItL
  cases e:m σp h with
  | ok v h1 =>
   rw[e] at q
   cases v with
   | tup xs=>exact absurd ⟨xs,h1,e⟩ z
   | _=>exact q
  | exc x h1=>rw[e] at q;exact q
  | bad=>rw[e] at q;exact q
structure FnAt (P:Program) (w:World) (K:PySem.W.Frag) (mg:Str→Option Value) (base:Heap) (x:Str) (ps:List Str) (F:List PV→MH→Out PV) (k:Nat):Prop where
 ex:∃f fd,mg x=some (.ref f)∧PySem.W.keepIn K (.ref f)=true∧gO K fd ps []∧FnOk P w K mg base (CXm P w) k f fd ps (spM K mg F)∧∃oc od osl,K.lookup f=some ⟨oc,od,.func fd,osl⟩
theorem FnAt.mono {P:Program} {w:World} {K:PySem.W.Frag} {mg:Str→Option Value} {base:Heap} {x:Str} {ps:List Str} {F:List PV→MH→Out PV} {i j:Nat} (c:FnAt P w K mg base x ps F i) (h:i≤j):FnAt P w K mg base x ps F j :=
 let ⟨f,fd,a,b,d,e,z⟩:=c.ex;⟨f,fd,a,b,d,e.mono h,z⟩
theorem FnAt.cal {P:Program} {w:World} {K:PySem.W.Frag} {mg:Str→Option Value} {base:Heap} {x:Str} {ps:List Str} {F:List PV→MH→Out PV} {i:Nat} (c:FnAt P w K mg base x ps F i) {X:Cx} (e1:X.prog=P) (e2:X.w=w) (e3:X.K=K) (e4:X.mg=mg) (e5:X.base=base):Cal X x ps F i:=by
 subst e1;subst e2;subst e3;subst e4;subst e5
 obtain ⟨f,fd,a,b,d,e,_⟩:=c.ex
 exact ⟨f,fd,a,b,d,e⟩
structure DefAt (K:PySem.W.Frag) (x:Str) (st:Stmt):Prop where
 ex:∃f fd,PySem.W.nsIn K mainGlobals x=some (some (.ref f))∧Fun K x x st f fd
theorem defAt_mk {K:PySem.W.Frag} {x:Str} {st:Stmt} {f:Addr} {oc:Value} {od an:Option Addr} {sl:Array (Option Value)} {kV dc pm cd ct:Value}
  (a:PySem.W.nsIn K mainGlobals x=some (some (.ref f))) (l:K.lookup f=some ⟨oc,od,.func (PySem.W.fnOf x x (dJ st) (au st) (ai st) .none kV dc pm an cd ct),sl⟩) (c:PySem.W.codeIn K cd x=true) (kp:PySem.W.keepIn K (.ref f)=true):DefAt K x st :=
 ⟨f,_,a,fun_mk l c kp⟩
def az (x:Str) (st:Stmt) (ps:List Str):Prop:=∀(kV doc pm:Value) (an:Option Addr) (cdv ct:Value) (us:List Value),us.length=ps.length→bindArgs (PySem.W.fnOf x x (dJ st) (au st) (ai st) .none kV doc pm an cdv ct) ⟨us,[]⟩=pure (ps.zip us)
theorem aI {P:Program} {w:World} {K:PySem.W.Frag} {mg:Str→Option Value} {base:Heap} {x:Str} {st:Stmt} {ps:List Str} {m:Mst} (kin:K.In base) (ns:base.Ns mainGlobals mg) (D:DefAt K x st) (S:FnScope N ps (ai st)) (B:az x st ps)
  (hl:∀y∈N,(ai st).names.lookup y=some .local∨(ai st).names.lookup y=some .cell) (hgl:∀y∈G,(ai st).names.lookup y=some .globalImplicit)
  (dbg:∀x∈N++G,(x == ("__debug__":Str))=false∧(x == ("__classdict__":Str))=false∧x≠"__name__")
  (hb:∀X:Cx,X.prog=P→X.w=w→X.K=K→X.mg=mg→X.base=base→X.env.scope=ai st→Good X N N G k→DefCx X→MSs X (au st) m) :
  FnAt P w K mg base x ps (mDef N.length ps.length m) (k+1):=by
 obtain ⟨f,fd,a,Fu⟩:=D.ex
 have Fx:=Fu.ex
 obtain ⟨oc,od,kV,doc,pm,an,cdv,ct,osl,e1,e2,_⟩:=Fx
 exact ⟨f,fd,PySem.W.mg_of kin ns a,Fu.kp,Fu.binds B,fn_M Fu S hl hgl dbg hb,oc,od,osl,e2⟩
theorem head_M {P:Program} {w:World} {K:PySem.W.Frag} {mg:Str→Option Value} {h:Heap} {x y:Str} {st:Stmt} {F:List PV→MH→Out PV} {fa:Addr} (D:DefAt K x st) (B:az x st [y]) (hmg:mg x=some (.ref fa)) (kin:K.In h) (ns:h.Ns mainGlobals mg)
  (H:∀base:Heap,K.In base→base.Ns mainGlobals mg→FnAt P w K mg base x [y] F k) :
  ∃fd:FuncData,(∀(s:Shared) (u:Value),BindsTo s fd ⟨[u],[]⟩ [(y,u)])∧∀base:Heap,K.In base→base.Ns mainGlobals mg→FnOk P w K mg base (CXm P w) k fa fd [y] (spM K mg F):=by
 obtain ⟨f,fd,a,Fu⟩:=D.ex
 have e:=hmg.symm.trans (PySem.W.mg_of kin ns a)
 cases e
 obtain ⟨oc,od,kV,doc,pm,an,cdv,ct,osl,e1,e2,e3⟩:=Fu.ex
 refine ⟨fd,fun s u=>.of_eq ?_,fun base kb nb=>?_⟩
 ·rw[e1];exact B kV doc pm an cdv ct [u] rfl
 ·obtain ⟨f',fd',g1,g2,g3,g4,oc',od',osl',g5⟩:=(H base kb nb).ex
  rw[hmg] at g1
  cases g1
  rw[e2] at g5
  cases g5
  exact g4
def spLaw (K:PySem.W.Frag):Sp:=fun vs H Q _=>∃(a:Addr) (ns:List Int),vs=[.ref a]∧SqF K H a (ns.map V.int)∧ns.length≤63∧∀H',Q (.bl true) H'
theorem walk_M {l:PySem.W.OpenLaw} {q:Program} {loose:List Str} {XP:(Str→Option Value)→Heap→Prop} {YP:World→Heap→Prop} {d:DefRec} {K:Params→PySem.W.Frag} {x:Str} {F:List PV→MH→Out PV} (hn:l.most=some 63) (hdf:d.params.defaults=[]) (hr:Room k callerA)
  (hY:∀(w:World) (h:Heap),YP w h→(K w.params).In h)
  (HF:∀(w:World) (mg:Str→Option Value) (fa:Addr) (h:Heap),(K w.params).In h→h.Ns mainGlobals mg→mg d.name=some (.ref fa) →
   ∃fd:FuncData,(∀(s:Shared) (u:Value),BindsTo s fd ⟨[u],[]⟩ [(x,u)])∧∀base:Heap,(K w.params).In base→base.Ns mainGlobals mg→FnOk l.prog w (K w.params) mg base (CXm l.prog w) k fa fd [x] (spM (K w.params) mg F))
  (ht:∀ns:List Int,ns.length≤63→∃h',F [.frl (ns.map .int)] []=.ok (.bl true) h') :
  PySem.W.WalkO q loose XP YP l.row.toRowW d [] (fun f vs=>PySem.call f vs):=by
 refine L2.walk_of (n:=63) (k:=k) (x:=x) (CX:=fun w=>CXm l.prog w) (sp:=fun w=>spLaw (K w.params)) hn (by decide) hdf hr hY (fun w mg fa h hK hns hmg=>?_) (fun w H a ns hl hO hS=>?_) fun w H s e s' z=>?_
 ·obtain ⟨fd,hb,hF⟩:=HF w mg fa h hK hns hmg
  refine ⟨fd,hb,fun base kb nb=>(hF base kb nb).imp fun vs H Q E z=>?_⟩
  obtain ⟨a,ns,rfl,sf,hl,hq⟩:=z
  obtain ⟨h',e⟩:=ht ns hl
  refine ⟨[],[.frl (ns.map .int)],[],.cons (.frl sf (RPs.ints ns)) .nil,⟨rfl,List.nodup_nil,fun n a o z _=>by simp at z⟩,?_⟩
  rw[e]
  intro ρ' H' v' _ _ r
  cases r
  exact hq H'
 ·have sf:SqF (K w.params) H a (ns.map V.int):=by
   rcases hS with (z|z)|z
   ·rcases hO a with y|⟨o,xs,y⟩
    ·rw[y] at z;cases z
    ·rw[y] at z;cases z
   ·exact .inl z
   ·exact .inr z
  exact ⟨a,ns,rfl,sf,hl,fun _=>rfl⟩
 ·obtain ⟨_,_,_,_,_,_,_,_,_,z⟩:=z
  exact z
end
section
variable {α:Type} {σ:PSt} {h:MH}
@[simp] theorem mC_ap {v:PV}:mC v σ h=.ok v h:=rfl
@[simp] theorem mVar_0 {v:PV} {r:PSt}:mVar 0 (some v::r) h=.ok v h:=rfl
@[simp] theorem mVar_s {i:Nat} {o:Option PV} {r:PSt}:mVar (i+1) (o::r) h=mVar i r h:=by simp[mVar]
@[simp] theorem mBin_ap {f:PV→PV→MH→Out PV} {a b:Mx PV}:mBin f a b σ h=(a σ h).bind fun x h1=>(b σ h1).bind fun y h2=>(f x y h2).ne:=rfl
@[simp] theorem mUn_ap {f:PV→MH→Out PV} {a:Mx PV}:mUn f a σ h=(a σ h).bind fun x h1=>(f x h1).ne:=rfl
@[simp] theorem mCB_ap {f:List PV→MH→Out PV} {a:Mx (List PV)}:mCB f a σ h=(a σ h).bind fun x h1=>(f x h1).ne:=rfl
@[simp] theorem mCall_ap {f:List PV→MH→Out PV} {a:Mx (List PV)}:aq f a σ h=(a σ h).bind f:=rfl
@[simp] theorem mNil_ap:mNil σ h=.ok [] h:=rfl
@[simp] theorem mCons_ap {a:Mx PV} {r:Mx (List PV)}:ac a r σ h=(a σ h).bind fun x h1=>(r σ h1).bind fun xs h2=>.ok (x::xs) h2:=rfl
@[simp] theorem mLst_ap {a:Mx (List PV)}:mLst a σ h=(a σ h).bind newL:=rfl
@[simp] theorem mTup_ap {a:Mx (List PV)}:mTup a σ h=(a σ h).bind newT:=rfl
@[simp] theorem mB_ap {a:Mx PV}:mB a σ h=(a σ h).bind fun v h1=>match v with | .bl b=>.ok b h1 | _=>.bad:=rfl
@[simp] theorem mNot_ap {a:Mx Bool}:mNot a σ h=(a σ h).bind fun b h1=>.ok (!b) h1:=rfl
@[simp] theorem mOr_ap {a b:Mx Bool}:mOr a b σ h=(a σ h).bind fun x h1=>if x=true then .ok true h1 else b σ h1:=rfl
@[simp] theorem mAndV_ap {a b:Mx PV}:gN a b σ h=(a σ h).bind fun x h1=>match x with | .bl c=>if c=true then b σ h1 else .ok (.bl false) h1 | _=>.bad:=rfl
@[simp] theorem mNotV_ap {a:Mx PV}:jh a σ h=(a σ h).bind fun x h1=>match x with | .bl c=>.ok (.bl (!c)) h1 | _=>.bad:=rfl
@[simp] theorem mSkip_ap:mSkip σ h=.nx σ h:=rfl
@[simp] theorem f8 {a b:Mst}:mSeq a b σ h=(a σ h).then b:=rfl
@[simp] theorem aK {k:Mst}:(SOut.nx σ h).then k=k σ h:=rfl
@[simp] theorem then_rt {k:Mst} {v:PV}:(SOut.rt v h).then k=.rt v h:=rfl
@[simp] theorem then_bk {k:Mst}:(SOut.bk σ h).then k=.bk σ h:=rfl
@[simp] theorem then_ct {k:Mst}:(SOut.ct σ h).then k=.ct σ h:=rfl
@[simp] theorem nQ {k:Mst} {x:MExc}:(SOut.rse x σ h).then k=.rse x σ h:=rfl
@[simp] theorem nK {k:Mst} {x:MExc}:(SOut.exc x σ h).then k=.exc x σ h:=rfl
@[simp] theorem oo {k:Mst}:SOut.bad.then k=.bad:=rfl
def Out.rt (o:Out PV) (σ:PSt):SOut:=match o with
 | .ok v h'=>.rt v h'
 | .exc x h'=>.exc x σ h'
 | .bad=>.bad
@[simp] theorem rt_ok {v:PV}:(Out.ok v h).rt σ=.rt v h:=rfl
@[simp] theorem rt_exc {x:MExc}:(Out.exc x h:Out PV).rt σ=.exc x σ h:=rfl
@[simp] theorem rt_bad:(Out.bad:Out PV).rt σ=.bad:=rfl
@[simp] theorem mRet_ap {m:Mx PV}:mRet m σ h=(m σ h).rt σ:=rfl
def Out.go {α:Type} (o:Out α) (σ:PSt) (k:α→Mst):SOut:=match o with
 | .ok v h'=>k v σ h'
 | .exc x h'=>.exc x σ h'
 | .bad=>.bad
@[simp] theorem aU {v:α} {k:α→Mst}:(Out.ok v h).go σ k=k v σ h:=rfl
@[simp] theorem go_exc {x:MExc} {k:α→Mst}:(Out.exc x h:Out α).go σ k=.exc x σ h:=rfl
@[simp] theorem go_bad {k:α→Mst}:(Out.bad:Out α).go σ k=.bad:=rfl
@[simp] theorem mEx_ap {m:Mx α} {k:α→Mst}:mEx m k σ h=(m σ h).go σ k:=rfl
@[simp] theorem mDrop_ap {m:Mx PV}:fo m σ h=(m σ h).go σ fun _=>mSkip:=rfl
@[simp] theorem mIf_ap {c:Mx Bool} {a b:Mst}:mIf c a b σ h=(c σ h).go σ fun x=>if x=true then a else b:=rfl
@[simp] theorem mSet_ap {i:Nat} {m:Mx PV}:mSet i m σ h=(m σ h).go σ fun v σ h=>.nx (σ.set i (some v)) h:=rfl
@[simp] theorem mPar_ap {i j:Nat} {m:Mx (List PV)}:mPar i j m σ h=(m σ h).go σ fun vs σ h=>match vs with | [v,w]=>.nx ((σ.set i (some v)).set j (some w)) h | _=>.bad:=rfl
@[simp] theorem mAsg_ap {m:Mx PV} {g:Mg}:mAsg m g σ h=(m σ h).go σ fun v σ h=>match g v σ h with | .nx σ2 h2=>.nx σ2 h2 | .exc x σ2 h2=>.exc x σ2 h2 | _=>.bad:=rfl
@[simp] theorem gNm_ap {i:Nat} {v:PV}:gNm i v σ h=.nx (σ.set i (some v)) h:=rfl
@[simp] theorem gNl_ap:gNl [] σ h=.nx σ h:=rfl
@[simp] theorem gCn_ap {a:Mg} {r:Mgs} {v:PV} {vs:List PV}:gCn a r (v::vs) σ h=(a v σ h).then (r vs):=rfl
@[simp] theorem gTp_ap {r:Mgs} {n:Nat} {xs:List PV}:gTp r n (.tup xs) σ h=if xs.length=n then r xs σ h else .bad:=rfl
@[simp] theorem mFor_ap {mi:Mx MIt} {g:Mg} {b:Mst}:mFor mi g b σ h=(mi σ h).go σ fun it=>mGo it g b it.xs:=rfl
@[simp] theorem mItS_ap {m:Mx PV}:mItS m σ h=(m σ h).bind itAny:=rfl
@[simp] theorem nt {m:Mx (List PV)}:ca m σ h=(m σ h).bind fun vs h1=>match vs with
 | [.int j]=>if -(2 ^ 62)≤j∧j<2 ^ 62 then .ok ⟨aW 0 j.toNat,[]⟩ h1 else .bad
 | _=>.bad:=rfl
@[simp] theorem gSb_ap {mo mi:Mx PV} {v:PV}:gSb mo mi v σ h=(mo σ h).go σ fun o=>mEx mi fun i σ h=>match setL o i v h with
 | some h2=>.nx σ h2
 | none=>.bad:=rfl
def SOut.fin (o:SOut):Out PV:=match o with
 | .nx _ h'=>.ok .non h'
 | .rt v h'=>.ok v h'
 | .exc x _ h'=>.exc x h'
 | .rse x _ h'=>.exc x h'
 | _=>.bad
@[simp] theorem fin_exc {x:MExc}:(SOut.exc x σ h).fin=.exc x h:=rfl
@[simp] theorem fin_rse {x:MExc}:(SOut.rse x σ h).fin=.exc x h:=rfl
@[simp] theorem dX {v:PV}:(SOut.rt v h).fin=.ok v h:=rfl
@[simp] theorem fin_nx:(SOut.nx σ h).fin=.ok .non h:=rfl
theorem fX {n np:Nat} {m:Mst} {ps:List PV} (e:ps.length=np):mDef n np m ps h=(m (be n ps) h).fin:=by unfold mDef;rw[if_pos e];rfl
end
section
variable {h:MH} {i j:Int}
@[simp] theorem opAdd_ii:opAdd (.int i) (.int j) h=.ok (.int (i+j)) h:=rfl
@[simp] theorem opSub_ii:opSub (.int i) (.int j) h=.ok (.int (i - j)) h:=rfl
@[simp] theorem opNeg_i:opNeg (.int i) h=.ok (.int (-i)) h:=rfl
@[simp] theorem opLt_ii:opLt (.int i) (.int j) h=.ok (.bl (decide (i<j))) h:=rfl
@[simp] theorem opGt_ii:opGt (.int i) (.int j) h=.ok (.bl (decide (j<i))) h:=rfl
@[simp] theorem opGe_ii:opGe (.int i) (.int j) h=.ok (.bl (decide (j≤i))) h:=rfl
@[simp] theorem opEq_ii:opEq (.int i) (.int j) h=.ok (.bl (decide (i=j))) h:=by simp[opEq,rd,SeqAt.shaped,PyData.canLay0,PyData.depth,PyData.eqv,Bool.beq_eq_decide_eq]
@[simp] theorem opNe_ii:opNe (.int i) (.int j) h=.ok (.bl (!decide (i=j))) h:=by simp[opNe,rd,SeqAt.shaped,PyData.canLay0,PyData.depth,PyData.eqv,Bool.beq_eq_decide_eq]
@[simp] theorem opEq_bb {a b:Bool}:opEq (.bl a) (.bl b) h=.ok (.bl (a == b)) h:=by simp[opEq,rd,SeqAt.shaped,PyData.canLay0,PyData.depth,PyData.eqv]
@[simp] theorem opNe_bb {a b:Bool}:opNe (.bl a) (.bl b) h=.ok (.bl (!(a == b))) h:=by simp[opNe,rd,SeqAt.shaped,PyData.canLay0,PyData.depth,PyData.eqv]
theorem db (hj:j≠0):opMod (.int i) (.int j) h=.ok (.int (i.fmod j)) h:=by simp[opMod,hj]
theorem k8 (hj:j≠0) (hl:j.natAbs.log2<9000):opFd (.int i) (.int j) h=.ok (.int (i.fdiv j)) h:=by simp[opFd,hj,PyProof.noPylong_of_log2 hl]
theorem dM (hl:-(2 ^ 64)<i∧i<2 ^ 64):opMul (.int i) (.int j) h=.ok (.int (i * j)) h:=by simp[opMul,IntMulOk.of_left (intBits_le_64 hl.1 hl.2)]
theorem opMul_r (hl:-(2 ^ 64)<j∧j<2 ^ 64):opMul (.int i) (.int j) h=.ok (.int (i * j)) h:=by simp[opMul,IntMulOk.of_right (intBits_le_64 hl.1 hl.2)]
theorem jZ (hj:0≤j∧j≤1000000∧i.natAbs<2 ^ 64):opPow (.int i) (.int j) h=.ok (.int (i ^ j.toNat)) h:=by simp[opPow,CPow,hj]
@[simp] theorem fAbs_i:fAbs [.int i] h=.ok (.int (if i<0 then -i else i)) h:=rfl
@[simp] theorem fMin_ii:fMin [.int i,.int j] h=.ok (.int (if j<i then j else i)) h:=rfl
@[simp] theorem fLen_frl {xs:List PV}:fLen [.frl xs] h=.ok (.int xs.length) h:=rfl
@[simp] theorem fLen_tup {xs:List PV}:fLen [.tup xs] h=.ok (.int xs.length) h:=rfl
theorem lK {xs:List PV} (hl:xs.length≤1000):newL xs h=.ok (.loc h.length) (h++[.lst xs]):=by
 unfold newL;rw[if_pos (Nat.le_trans hl (by decide))]
theorem kL {n m:Nat} (hl:m<n):ixN n (m:Int)=some m:=by unfold ixN;rw[if_pos (by omega),if_pos (by omega)];simp
@[simp] theorem atI_0 {α:Type} {a:α} {r:List α}:atI (a::r) 0=some a:=dL (j:=0) rfl
@[simp] theorem atI_1 {α:Type} {a b:α} {r:List α}:atI (a::b::r) 1=some b:=dL (j:=1) rfl
@[simp] theorem atI_2 {α:Type} {a b c:α} {r:List α}:atI (a::b::c::r) 2=some c:=dL (j:=2) rfl
@[simp] theorem atI_3 {α:Type} {a b c d:α} {r:List α}:atI (a::b::c::d::r) 3=some d:=dL (j:=3) rfl
def Out.ofO (o:Option PV) (h:MH):Out PV:=match o with
 | some v=>.ok v h
 | none=>.bad
@[simp] theorem ofO_some {v:PV}:Out.ofO (some v) h=.ok v h:=rfl
@[simp] theorem opIx_tup {xs:List PV}:opIx (.tup xs) (.int i) h=Out.ofO (atI xs i) h:=rfl
@[simp] theorem opIx_frl {xs:List PV}:opIx (.frl xs) (.int i) h=Out.ofO (atI xs i) h:=rfl
theorem fk {n:Nat} {xs:List PV} (e:h[n]?=some (.lst xs)):opIx (.loc n) (.int i) h=Out.ofO (atI xs i) h:=by
 simp only[opIx,e];rfl
theorem gy {n:Nat} {xs:List PV} {v:PV} (e:h[n]?=some (.lst xs)):setL (.loc n) (.int i) v h=(ixN xs.length i).map fun p=>h.set n (.lst (xs.set p v)):=by simp only[setL,e]
@[simp] theorem itAny_tup {xs:List PV}:itAny (.tup xs) h=.ok ⟨xs,[]⟩ h:=rfl
@[simp] theorem itAny_frl {xs:List PV}:itAny (.frl xs) h=.ok ⟨xs,[]⟩ h:=rfl
@[simp] theorem ok_none {xs:List PV}:(⟨xs,[]⟩:MIt).ok h↔True:=⟨fun _=>trivial,fun _ p hp=>nomatch hp⟩
@[simp] theorem ok_some {xs zs:List PV} {n:Nat}:(⟨xs,[(n,zs)]⟩:MIt).ok h↔h[n]?=some (.lst zs):=by
 constructor
 ·intro q;exact q (n,zs) (by simp)
 ·intro q p hp
  have e:p=(n,zs):=List.mem_singleton.mp hp
  subst e;exact q
end
def SOut.turn (o:SOut) (k:Mst):SOut:=match o with
 | .nx σ2 h2=>k σ2 h2
 | .ct σ2 h2=>k σ2 h2
 | .bk σ2 h2=>.nx σ2 h2
 | .rt v h2=>.rt v h2
 | .exc e σ2 h2=>.exc e σ2 h2
 | .rse e σ2 h2=>.rse e σ2 h2
 | .bad=>.bad
@[simp] theorem ni {σ:PSt} {h:MH} {x:MExc} {k:Mst}:(SOut.rse x σ h).turn k=.rse x σ h:=rfl
@[simp] theorem nH {σ:PSt} {h:MH} {x:MExc} {k:Mst}:(SOut.exc x σ h).turn k=.exc x σ h:=rfl
@[simp] theorem kD {σ:PSt} {h:MH} {k:Mst}:(SOut.nx σ h).turn k=k σ h:=rfl
@[simp] theorem turn_ct {σ:PSt} {h:MH} {k:Mst}:(SOut.ct σ h).turn k=k σ h:=rfl
@[simp] theorem turn_bk {σ:PSt} {h:MH} {k:Mst}:(SOut.bk σ h).turn k=.nx σ h:=rfl
@[simp] theorem turn_rt {v:PV} {h:MH} {k:Mst}:(SOut.rt v h).turn k=.rt v h:=rfl
theorem mGo_nil {it:MIt} {g:Mg} {b:Mst} {σ:PSt} {h:MH} (e:it.ok h):mGo it g b [] σ h=.nx σ h:=by
 rw[mGo];dsimp only;rw[if_pos e]
theorem nI {it:MIt} {g:Mg} {b:Mst} {x:PV} {r:List PV} {σ σ1:PSt} {h h1:MH} (e:it.ok h) (eg:g x σ h=.nx σ1 h1):mGo it g b (x::r) σ h=(b σ1 h1).turn (mGo it g b r):=by
 rw[mGo];dsimp only;rw[if_pos e,eg];rfl
theorem jX {prog:Program} {w:World} {A:Around} {R:Result→Shared→Prop} {s:Shared} {elt target iter:Expr} {ifs:List Expr} {scope:Scope} {pos:Pos} {it acc:Value} {env:Env} (I:Nat→Shared→Prop)
  (turn:∀n s,I n s→wpAny (model prog w) A (pyNext it) (fun r s₁=>match r with
   | none=>R (.ok .next) s₁
   | some v=>wpAny (model prog w) A (letOwnedTupleGo target it v) (fun _ s₂'=>wpAny (model prog w) A (assign target env v) (fun _ s₂ =>
     wpAny (model prog w) A (forIn ifs true fun c r=>if r=true then do let ok ←isTrue c env (eval c env);pure (ForInStep.yield ok) else pure (ForInStep.yield r)) (fun ok s₃ =>
      if ok=true then wpAny (model prog w) A (eval elt env) (fun x s₄ =>
       wpAny (model prog w) A (call (.builtin "list.append") [acc,x]) (fun _ s₅=>∃m,m<n∧I m s₅) (fun _ _=>False) s₄) (fun _ _=>False) s₃
      else ∃m,m<n∧I m s₃) (fun _ _=>False) s₂) (fun _ _=>False) s₂') (fun _ _=>False) s₁) (fun _ _=>False) s)
  (n:Nat) (h:I n s) :
  codeAny (model prog w) A (.compLoop (.ListComp elt [⟨target,iter,ifs,0⟩] scope pos) 0 it acc env) R s:=by
 refine codeAny_loop rfl I (fun n s hI=>?_) n h
 show wpAny _ A ((compTurn (.ListComp elt [⟨target,iter,ifs,0⟩] scope pos) 0 it acc env).onRaise (fun x=>do noteFrame x env;theTreesLotGoes x)) _ _ s
 refine wpAny_noted ?_
 rw[compTurn_list]
 have no:∀(e:Value) (s':Shared),False→notedBy (model prog w) A env (fun e s'=>R (.error e) s') e s':=fun _ _ z=>z.elim
 refine wpAny_bind (wpAny_standAt (wpAny_bind (wpAny_mono (turn n s hI) (fun r s₁ h₁=>?_) fun _ _ h'=>h'.elim)))
 cases r with
 | none=>exact wpAny_pure h₁
 | some v =>
  refine wpAny_bind (wpAny_mono h₁ (fun _ s₂' h₂'=>?_) fun _ _ h'=>h'.elim)
  refine wpAny_bind (wpAny_mono h₂' (fun _ s₂ h₂=>wpAny_bind (wpAny_mono h₂ (fun ok s₃ h₃=>?_) fun _ _ h'=>h'.elim)) fun _ _ h'=>h'.elim)
  cases ok with
  | false=>exact wpAny_pure ⟨rfl,h₃⟩
  | true =>
   exact wpAny_bind (wpAny_bind (wpAny_mono h₃ (fun x s₄ h₄=>wpAny_bind (wpAny_mono h₄ (fun _ s₅ h₅=>wpAny_pure (wpAny_pure ⟨rfl,h₅⟩)) fun _ _ h'=>h'.elim)) fun _ _ h'=>h'.elim))
def clOf (env:Env):List (Str × NameKind)→List (Str × Addr)→List (Str × Addr)
 | [],cs=>cs
 | (n,k)::r,cs=>clOf env r (if (k == NameKind.free)=true then (n,(env.cells.lookup n).getD 0)::cs else cs)
theorem i3 {scope:Scope} {env:Env} (h:∀y∈scope.names,y.2=.free→∃c,env.cells.lookup y.1=some c):closureFor scope env=pure (clOf env scope.names []):=by
 have key:∀(l:List (Str × NameKind)) (cs:List (Str × Addr)),(∀y∈l,y.2=.free→∃c,env.cells.lookup y.1=some c) →
   (forIn l cs fun (x:Str × NameKind) (r:List (Str × Addr))=>if (x.2 == NameKind.free)=true then (do let a ←cellOf env x.1;pure (ForInStep.yield ((x.1,a)::r)):Sem _) else pure (ForInStep.yield r))=(pure (clOf env l cs):Sem _):=by
  intro l
  induction l with
  | nil=>intro cs _;rfl
  | cons y l ih =>
   intro cs hh
   obtain ⟨n,k⟩:=y
   rw[List.forIn_cons]
   have hl:=fun z hz=>hh z (List.mem_cons_of_mem _ hz)
   by_cases hk:(k == NameKind.free)=true
   ·obtain ⟨c,hc⟩:=hh (n,k) List.mem_cons_self (by simpa using hk)
    dsimp only at hc ⊢
    rw[if_pos hk]
    have hco:cellOf env n=pure c:=by unfold cellOf;rw[hc]
    rw[hco]
    refine (ih ((n,c)::cs) hl).trans ?_
    simp only[clOf,hk,if_true,hc,Option.getD_some]
   ·dsimp only
    rw[if_neg hk]
    refine (ih cs hl).trans ?_
    simp[clOf,hk]
 unfold closureFor
 exact (congrArg (fun z=>z >>= fun r=>pure r) (key scope.names [] h)).trans rfl
theorem eA {env:Env} {x:Str}:∀(l:List (Str × NameKind)) (cs:List (Str × Addr)),(∀a,cs.lookup x=some a→a=(env.cells.lookup x).getD 0)→(∀a,(clOf env l cs).lookup x=some a→a=(env.cells.lookup x).getD 0)∧((∃k,(x,k)∈l∧k=.free)∨(∃a,cs.lookup x=some a)→∃a,(clOf env l cs).lookup x=some a)
 | [],cs,h=>⟨h,fun z=>by
  rcases z with ⟨k,z,_⟩|z
  ·cases z
  ·exact z⟩
 | (n,k)::r,cs,h=>by
  have h':∀a,(if (k == NameKind.free)=true then (n,(env.cells.lookup n).getD 0)::cs else cs).lookup x=some a→a=(env.cells.lookup x).getD 0:=fun a ha=>by
   split at ha
   ·rw[List.lookup_cons] at ha
    split at ha
    ·rename_i e
     have:x=n:=by simpa using e
     subst this
     exact (Option.some.inj ha).symm
    ·exact h a ha
   ·exact h a ha
  obtain ⟨i1,i2⟩:=eA r _ h'
  refine ⟨i1,fun z=>i2 ?_⟩
  rcases z with ⟨k',z,hk⟩|⟨a,z⟩
  ·rcases List.mem_cons.mp z with e|e
   ·cases e
    right
    subst hk
    exact ⟨(env.cells.lookup x).getD 0,by simp⟩
   ·exact .inl ⟨k',e,hk⟩
  ·right
   split
   ·rw[List.lookup_cons]
    split
    ·exact ⟨_,rfl⟩
    ·exact ⟨a,z⟩
   ·exact ⟨a,z⟩
theorem bi {env:Env} (hk:env.scope.kind=.function):∀{names:List (Str × NameKind)} {x:Str} {k:NameKind},names.lookup x=some k →
  (names.map fun (n,k)=>if (k == NameKind.free && env.scope.kind == .function && env.kindOf n == some .cell) then (n,NameKind.cell) else (n,k)).lookup x=some (if k=.free∧env.kindOf x=some .cell then .cell else k)
 | [],_,_,h=>by simp at h
 | (n,k')::r,x,k,h=>by
  have ih:=@bi env hk r x k
  show List.lookup x ((if (k' == NameKind.free && env.scope.kind == .function && env.kindOf n == some .cell)=true then (n,NameKind.cell) else (n,k'))::_)=_
  cases hx:x == n with
  | true =>
   have e:x=n:=by simpa using hx
   subst e
   simp only[List.lookup_cons,hx] at h
   cases h
   by_cases z:k'=.free∧env.kindOf x=some .cell
   ·rw[if_pos (by simp[z.1,z.2,hk]),if_pos z];simp[List.lookup_cons]
   ·rw[if_neg (by simp[hk];intro q1 q2;exact z ⟨q1,q2⟩),if_neg z];simp[List.lookup_cons]
  | false =>
   simp only[List.lookup_cons,hx] at h
   by_cases hc:(k' == NameKind.free && env.scope.kind == .function && env.kindOf n == some .cell)=true
   ·rw[if_pos hc];simp only[List.lookup_cons,hx];exact ih h
   ·rw[if_neg hc];simp only[List.lookup_cons,hx];exact ih h
def bR (X:Cx) (scope:Scope) (cl:List (Str × Addr)) (s₃:Shared) (H₃:Hp) (fp:List Addr) (N':List Str):Cx :=
 { X with N:=N',s₀:=s₃,H₀:=H₃,env:=compEnvC scope cl s₃.heap.objs.size X.env,outer:=X.stack,ex:=fp,fn:=fun _=>false,pn:=[],xe:=fun _ _=>False}
structure CompOk (X:Cx) (N:List Str) (scope:Scope) (vars frees:List Str) (fm:List Nat):Prop where
 kind:scope.kind=.function
 cell:∀y∈scope.names,y.2≠.cell
 names:∀y∈scope.names,y.2=.local→scope.names.lookup y.1=some .local
 hv:∀x∈vars,scope.names.lookup x=some .local
 hf:∀x∈frees,scope.names.lookup x=some .free
 all:∀y∈scope.names,y.2=.free→y.1∈frees
 fm:fm.map (fun i=>N[i]?)=frees.map some
 cl:∀x∈frees,X.env.kindOf x=some .cell
def cSt (nv:Nat) (fm:List Nat) (σ:PSt):PSt:=List.replicate nv none++fm.map fun i=>(σ[i]?).getD none
noncomputable def cGo (it:MIt) (n:Nat) (gt:Mg) (mt:Mx Bool) (me:Mx PV):List PV→PSt→MH→Out Unit
 | [],_,h=>if it.ok h then .ok () h else .bad
 | x::r,σ,h=>if it.ok h then (match gt x σ h with
  | .nx σ1 h1=>(mt σ1 h1).ne.bind fun b h2=>if b=true then (me σ1 h2).ne.bind fun v h3=>(match h3[n]? with
    | some (.lst ys)=>if ys.length<sizeLine then cGo it n gt mt me r σ1 (h3.set n (.lst (ys++[v]))) else .bad
    | _=>.bad) else cGo it n gt mt me r σ1 h2
  | _=>.bad) else .bad
noncomputable def bZ (nv:Nat) (fm:List Nat) (mi:Mx MIt) (gt:Mg) (mt:Mx Bool) (me:Mx PV):Mx PV:=fun σ h =>
 (mi σ h).bind fun it h1=>(cGo it h1.length gt mt me it.xs (cSt nv fm σ) (h1++[.lst []])).bind fun _ h3=>.ok (.loc h1.length) h3
def MTs (X:Cx) (ifs:List Expr) (m:Mx Bool):Prop :=
 ∀(pins:List (Addr × Obj)) (s:Shared) (σ:L2.St) (H:Hp) (Q:Bool→Hp→Prop),Inv X pins σ H s→tM X REq m σ H Q →
  wpAny (model X.prog X.w) X.A (forIn ifs true fun c r=>if r=true then do let ok ←isTrue c X.env (eval c X.env);pure (ForInStep.yield ok) else pure (ForInStep.yield r)) (TP X pins σ Q) X.xe s
def mTrue:Mx Bool:=fun _ h=>.ok true h
theorem cz {X:Cx}:MTs X [] mTrue:=fun pins s σ H Q I ⟨ρ,σp,h,rs,rh,q⟩=>wpAny_tests_nil ⟨H,I,q ρ H true (Le.refl _ _) rh rfl⟩
theorem mts_one {X:Cx} {c:Expr} {m:Mx Bool} (h:MT X c m):MTs X [c] m:=fun pins s σ H Q I q=>wpAny_tests_one (h pins s σ H Q I q)
section
variable {X:Cx} {N W G:List Str} {k:Nat}
theorem lN (g:Good X N W G k) {tg iter elt:Expr} {ifs:List Expr} {scope:Scope} {pos:Pos} {vars frees G':List Str} {fm:List Nat} {mi:Mx MIt} {gt:Mg} {mt:Mx Bool} {me:Mx PV} (C:CompOk X N scope vars frees fm)
  (nd:(vars++frees).Nodup) (hgl:∀x∈G',scope.names.lookup x=some .globalImplicit) (dbg:∀x∈(vars++frees)++G',(x == ("__debug__":Str))=false∧(x == ("__classdict__":Str))=false∧x≠"__name__")
  (hi:MI X tg iter mi)
  (hY:∀Y:Cx,Y.prog=X.prog→Y.w=X.w→Y.K=X.K→Y.mg=X.mg→Y.base=X.base→Y.env.scope=relabel scope X.env→Good Y (vars++frees) vars G' k→MG Y tg gt∧MTs Y ifs mt∧ME Y elt me)
  (hs:∀x,foldedSetIterable iter X.env x=pure x) {use:Option (Value→Sem Unit)} {Qv:Value→Shared→Prop} {pp:Pos} {pins:List (Addr × Obj)} {s:Shared} {σ:L2.St} {H:Hp} {Q:VK} (I:Inv X pins σ H s) (tm:tM X (RV' X) (bZ vars.length fm mi gt mt me) σ H Q)
  (fin:∀(acc C:Addr) (H6:Hp) (s7:Shared) (m7:Str→Option Value),Inv X pins σ H6 s7→H6 C=none→s7.heap.Ns C m7→C≠X.env.locals→X.s₀.heap.objs.size≤C→C∉X.fs→(∀x c,X.env.cells.lookup x=some c→c≠C)→(∀p∈X.pn++pins,p.1≠C)→Q (.ref acc) H6 →
   compPost (model X.prog X.w) X.A X.xe use Qv (.ref acc) C (.ok .next) s7) :
  wpAny (model X.prog X.w) X.A (comprehension (.ListComp elt [⟨tg,iter,ifs,0⟩] scope pos) scope X.env pp (newList []) false (eval iter X.env) use) Qv X.xe s:=by
 obtain ⟨ρ,σp,h,rs,rh,q⟩:=tm
 have hfree:∀y∈scope.names,y.2=.free→∃c,X.env.cells.lookup y.1=some c:=fun y hy e=>I.ok.has y.1 (.inl (C.cl _ (C.all y hy e)))
 refine wpAny_comprehension_free (use:=use) rfl hs (i3 hfree) C.kind C.names ?_
 generalize hcl:clOf X.env scope.names []=cl
 have clk:∀x a,cl.lookup x=some a→X.env.cells.lookup x=some a∨((X.env.cells.lookup x)=none∧a=0):=fun x a e=>by
  rw[←hcl] at e
  have:=(eA (env:=X.env) (x:=x) scope.names [] (fun a z=>by simp at z)).1 a e
  cases z:X.env.cells.lookup x with
  | none=>right;rw[z] at this;exact ⟨rfl,this⟩
  | some c=>left;rw[z] at this;rw[this];rfl
 have clf:∀x∈frees,∃c,cl.lookup x=some c∧X.env.cells.lookup x=some c:=fun x hx=>by
  obtain ⟨c,hc⟩:=I.ok.has x (.inl (C.cl x hx))
  have hm:(∃kk,(x,kk)∈scope.names∧kk=.free):=⟨.free,PySem.mem_of_lookup (C.hf x hx),rfl⟩
  obtain ⟨a,ha⟩:=(eA (env:=X.env) (x:=x) scope.names [] (fun a z=>by simp at z)).2 (.inl hm)
  rw[hcl] at ha
  rcases clk x a ha with z|⟨z,_⟩
  ·rw[hc] at z;cases z;exact ⟨c,ha,hc⟩
  ·rw[hc] at z;cases z
 have clin:∀x a,cl.lookup x=some a→X.env.cells.lookup x=some a:=fun x a e=>by
  rcases clk x a e with z|⟨z,_⟩
  ·exact z
  ·exfalso
   have only:∀(l:List (Str × NameKind)) (cs:List (Str × Addr)) (x:Str) (a:Addr),(clOf X.env l cs).lookup x=some a→(x,NameKind.free)∈l∨cs.lookup x=some a:=by
    intro l
    induction l with
    | nil=>intro cs x a e;exact .inr e
    | cons y l ih =>
     intro cs x a e
     obtain ⟨n,kk⟩:=y
     rcases ih _ x a e with z|z
     ·exact .inl (List.mem_cons_of_mem _ z)
     ·split at z
      ·rename_i hk
       have hk':kk=NameKind.free:=by simpa using hk
       rw[List.lookup_cons] at z
       split at z
       ·rename_i e'
        have:x=n:=by simpa using e'
        subst this;subst hk'
        exact .inl List.mem_cons_self
       ·exact .inr z
      ·exact .inr z
   rw[←hcl] at e
   rcases only _ _ x a e with z'|z'
   ·obtain ⟨c,hc⟩:=hfree _ z' rfl
    rw[z] at hc;cases hc
   ·simp at z'
 have start:=hi pins s σ H (fun J H1=>∃ρ1 it h1,Le ρ H ρ1 H1∧RH X.K X.mg ρ1 H1 h1∧JRel X ρ1 H1 it J∧Ful X (RV' X) σp ρ1 H1 ((cGo it h1.length gt mt me it.xs (cSt vars.length fm σp) (h1++[.lst []])).bind fun _ h3=>.ok (.loc h1.length) h3) Q) I
  ⟨ρ,σp,h,rs,rh,Ful.bind q fun ρ1 H1 it J h1 _ l1 rh1 jr q1=>⟨ρ1,it,h1,l1,rh1,jr,q1⟩⟩
 refine wpAny_mono start (fun x s₁ h₁=>wpAny_mono h₁ (fun itv s₂ h₂=>?_) fun _ _ e=>e) fun _ _ e=>e
 obtain ⟨ita,fp,tn,J,H2,rfl,I2,T,st2,f2,ρ1,it,h1,l1,rh1,jr,q1⟩:=h₂
 refine wpAny_newObj_type ?_
 have hf2:H2 s₂.heap.objs.size=none:=I2.hok.fresh (Nat.le_refl _)
 have I3:=I2.lnew (ys:=[]) (its:=[]) (t':=s₂.toks) .nil (Nat.zero_le _)
 obtain ⟨rh3,l3⟩:=rh1.new hf2 (o:=.lst []) (ho:=.lst []) ⟨[],rfl,.nil⟩
 generalize hs3:({ s₂ with heap:=s₂.heap.push { cls:=.type "list",data:=.seq ([]:List Value).toArray},toks:=s₂.toks}:Shared)=s₃ at I3
 generalize hH3:upd H2 s₂.heap.objs.size (.lst [])=H₃ at I3 rh3 l3
 have hacc:H₃ s₂.heap.objs.size=some (.lst []):=by rw[←hH3];exact bS
 have es3:s₃.heap=s₂.heap.push { cls:=.type "list",data:=.seq ([]:List Value).toArray}:=by rw[←hs3]
 have st3:tn 0 s₃.heap:=T.keep _ _ _ st2 fun b _ o e=>by rw[es3];exact Heap.get?_push_of_some _ e
 have fp3:∀b∈fp,FpOk X pins H₃ b:=fun b hb=>by
  obtain ⟨a0,a1⟩:=f2 b hb
  refine ⟨?_,a1⟩
  obtain ⟨o,eo,_⟩:=T.obj _ _ st2 b hb
  rw[←hH3,aD (Nat.ne_of_lt (Heap.lt_size eo))];exact a0
 have goal3:wpAny (model X.prog X.w) X.A (newFunctionEnv scope X.env.globals cl [] X.env.qual none .none (some X.env)) (fun cenv s₄ =>
    codeAny (model X.prog X.w) X.A (.compStart (.ListComp elt [⟨tg,iter,ifs,0⟩] scope pos) 0 (.ref ita) (.ref s₂.heap.objs.size) { cenv with scope:=relabel scope X.env}) (compPost (model X.prog X.w) X.A X.xe use Qv (.ref s₂.heap.objs.size) cenv.locals) s₄) X.xe s₃:=by
  refine wpAny_newFunctionEnv C.cell (by intro y hy;simp at hy) (fun h' hns hsb=>?_) C.kind
  dsimp only[newEnv]
  have keep4:∀b o,s₃.heap.get? b=some o→h'.get? b=some o:=fun b o e=>hsb.extBut b o (Nat.ne_of_lt (Heap.lt_size e)) (Heap.get?_push_of_some _ e)
  have ok:(bR X scope cl s₃ H₃ fp (vars++frees)).Ok:=by
   refine ⟨I3.ok.mod,C.kind,I3.ok.glob,I3.ok.blt,Nat.le_refl _,fun x y c h1 h2=>I3.ok.inj x y c (clin x c h1) (clin y c h2),fun x hx=>?_,fun x c hx=>absurd hx Bool.false_ne_true,I3.ok.hd,I3.ok.frames,.inl rfl,
    fun b hb=>⟨?_,fun x c e z=>?_⟩,I3.bs,Nat.le_trans I3.ok.bsz I3.sz,fun b o e hb=>?_,fun b hb z=>?_,I3.stack,I3.stkFree⟩
   ·
    have hx':(relabel scope X.env).names.lookup x=some .cell∨(relabel scope X.env).names.lookup x=some .free:=hx
    cases e:scope.names.lookup x with
    | none =>
     exfalso
     have nn:∀(l:List (Str × NameKind)),l.lookup x=none→(l.map fun (n,k)=>if (k == NameKind.free && X.env.scope.kind == .function && X.env.kindOf n == some .cell) then (n,NameKind.cell) else (n,k)).lookup x=none:=by
      intro l
      induction l with
      | nil=>intro _;rfl
      | cons y l ih =>
       intro hl
       obtain ⟨n,kk⟩:=y
       rw[List.lookup_cons] at hl
       split at hl
       ·cases hl
       ·rename_i hx2
        rw[List.map_cons]
        dsimp only
        split <;> (rw[List.lookup_cons];simp only[hx2];exact ih hl)
     have e2:=nn scope.names e
     rcases hx' with z|z
     ·rw[show (relabel scope X.env).names.lookup x=none from e2] at z;cases z
     ·rw[show (relabel scope X.env).names.lookup x=none from e2] at z;cases z
    | some kk =>
     have e2:=bi (env:=X.env) I3.ok.kind e
     have hk:kk=.free:=by
      rcases hx' with z|z
      ·rw[show (relabel scope X.env).names.lookup x=_ from e2] at z
       have z':=Option.some.inj z
       by_cases zz:kk=.free∧X.env.kindOf x=some .cell
       ·exact zz.1
       ·rw[if_neg zz] at z'
        exact absurd z' (C.cell _ (PySem.mem_of_lookup e))
      ·rw[show (relabel scope X.env).names.lookup x=_ from e2] at z
       have z':=Option.some.inj z
       by_cases zz:kk=.free∧X.env.kindOf x=some .cell
       ·exact zz.1
       ·rw[if_neg zz] at z';exact z'
     subst hk
     obtain ⟨c,h1,_⟩:=clf x (C.all _ (PySem.mem_of_lookup e) rfl)
     exact ⟨c,h1⟩
   ·obtain ⟨o,eo,_⟩:=T.obj _ _ st3 b hb
    exact Nat.ne_of_lt (Heap.lt_size eo)
   ·exact (fp3 b hb).2.2.2.2.1 x c (clin x c e) z
   ·obtain ⟨_,_,_,h4,_⟩:=fp3 b hb
    rcases h4 with h4|h4
    ·exact I3.ok.noex b o e h4
    ·exact absurd (Nat.lt_of_lt_of_le (Heap.lt_size e) (Nat.le_trans I3.ok.bsz h4)) (Nat.lt_irrefl _)
   ·obtain ⟨_,h2,h3,_⟩:=fp3 b hb
    rcases List.mem_cons.mp (I3.stkSub b z) with e|e
    ·exact h2 e
    ·exact h3 e
  obtain ⟨mX,nsX,lX⟩:=I3.loc
  have l13:Le ρ H (ρ1++[s₂.heap.objs.size]) H₃:=l1.trans l3
  let σY:L2.St:=List.replicate vars.length none++fm.map fun i=>(σ[i]?).getD none
  have fml:fm.length=frees.length:=by have:=congrArg List.length C.fm;simpa using this
  have invY:Inv (bR X scope cl s₃ H₃ fp (vars++frees)) [] σY H₃ { s₃ with heap:=h',toks:=s₃.toks}:=by
   refine ⟨ok,rfl,I3.bare,Un.kept keep4,⟨_,hns,fun i x v hN hv hvis=>?_⟩,fun x c e=>?_,?_,fun x c e=>I3.freeC x c (clin x c e),fun p hp=>absurd (show p∈([]:List (Addr × Obj)) from hp) (by simp),I3.hok.kept keep4,?_⟩
   ·have hN':(vars++frees)[i]?=some x:=hN
    have hiv:vars.length≤i:=by
     by_cases z:vars.length≤i
     ·exact z
     ·exfalso
      have hv':σY[i]?=some (some v):=hv
      rw[List.getElem?_append_left (by simp;omega),List.getElem?_replicate] at hv'
      split at hv' <;> cases hv'
    have hv':σY[i]?=some (some v):=hv
    rw[List.getElem?_append_right (by simpa using hiv),List.length_replicate,List.getElem?_map] at hv'
    rw[List.getElem?_append_right hiv] at hN'
    cases ej:fm[i - vars.length]? with
    | none=>rw[ej] at hv';cases hv'
    | some j =>
     rw[ej] at hv'
     have ef:=congrArg (fun l=>l[i - vars.length]?) C.fm
     simp only[List.getElem?_map,ej,hN',Option.map_some] at ef
     have ef':N[j]?=some x:=by simpa using ef
     have ev:σ[j]?=some (some v):=by
      have:(σ[j]?).getD none=some v:=by simpa using hv'
      cases z:σ[j]? with
      | none=>rw[z] at this;cases this
      | some o=>rw[z] at this;simp at this;rw[this]
     have hx:x∈frees:=List.mem_of_getElem? hN'
     have vis:Vis X.env.scope x:=.inr (.inl (C.cl x hx))
     obtain ⟨u,ru,look⟩:=lX j x v (by rw[g.hN];exact ef') ev vis
     refine ⟨u,ru,.inr ⟨?_,?_⟩⟩
     ·left
      show (relabel scope X.env).names.lookup x=some .cell
      have:=bi (env:=X.env) I3.ok.kind (C.hf x hx)
      rw[if_pos ⟨rfl,C.cl x hx⟩] at this
      exact this
     ·rcases look with ⟨hk,_⟩|⟨_,c,hc,hcell⟩
      ·rw[C.cl x hx] at hk;cases hk
      ·obtain ⟨c',h1,h2⟩:=clf x hx
       rw[hc] at h2;cases h2
       obtain ⟨o,eo,ed⟩:=hcell
       exact ⟨c,h1,o,keep4 _ _ eo,ed⟩
   ·obtain ⟨v,o,eo,ed⟩:=I3.cell x c (clin x c e)
    exact ⟨v,o,keep4 _ _ eo,ed⟩
   ·exact I3.hok.fresh (Nat.le_refl _)
   ·show σY.length=(vars++frees).length
    simp[σY,fml]
  have gY:Good (bR X scope cl s₃ H₃ fp (vars++frees)) (vars++frees) vars G' k:=by
   refine ⟨rfl,nd,fun x hx=>?_,fun x hx=>.inr ?_,fun x hx=>?_,dbg,g.calm,g.room,PassesOwn.never⟩
   ·rcases List.mem_append.mp hx with z|z
    ·left
     have:=bi (env:=X.env) I3.ok.kind (C.hv x z)
     rw[if_neg (fun q=>nomatch q.1)] at this
     exact this
    ·right
     have:=bi (env:=X.env) I3.ok.kind (C.hf x z)
     rw[if_pos ⟨rfl,C.cl x z⟩] at this
     exact this
   ·have:=bi (env:=X.env) I3.ok.kind (C.hv x hx)
    rw[if_neg (fun q=>nomatch q.1)] at this
    exact this
   ·have:=bi (env:=X.env) I3.ok.kind (hgl x hx)
    rw[if_neg (fun q=>nomatch q.1)] at this
    exact this
  obtain ⟨hg,ht,he⟩:=hY (bR X scope cl s₃ H₃ fp (vars++frees)) rfl rfl rfl rfl rfl rfl gY
  have rsY:RS X.K (ρ1++[s₂.heap.objs.size]) H₃ (cSt vars.length fm σp) σY:=by
   refine ⟨by simp[σY,cSt],fun i v e=>?_⟩
   unfold cSt at e
   by_cases z:vars.length≤i
   ·rw[List.getElem?_append_right (by simpa using z),List.length_replicate,List.getElem?_map] at e
    cases ej:fm[i - vars.length]? with
    | none=>rw[ej] at e;cases e
    | some j =>
     rw[ej] at e
     have ev:σp[j]?=some (some v):=by
      have:(σp[j]?).getD none=some v:=by simpa using e
      cases z:σp[j]? with
      | none=>rw[z] at this;cases this
      | some o=>rw[z] at this;simp at this;rw[this]
     obtain ⟨v',e',rv⟩:=rs.2 j v ev
     refine ⟨v',?_,rv.le l13⟩
     show σY[i]?=_
     rw[List.getElem?_append_right (by simpa using z),List.length_replicate,List.getElem?_map,ej]
     simp[e']
   ·rw[List.getElem?_append_left (by simp;omega),List.getElem?_replicate] at e
    split at e <;> cases e
  have q3:Ful X (RV' X) σp (ρ1++[s₂.heap.objs.size]) H₃ ((cGo it h1.length gt mt me it.xs (cSt vars.length fm σp) (h1++[.lst []])).bind fun _ h3=>.ok (.loc h1.length) h3) Q:=Ful.le l3 q1
  have hrho:(ρ1++[s₂.heap.objs.size])[h1.length]?=some s₂.heap.objs.size:=by rw[←rh1.len];simp
  have loop:∀s₅:Shared,s₅={ s₃ with heap:=h',toks:=s₃.toks}→codeAny (model X.prog X.w) X.A (.compLoop (.ListComp elt [⟨tg,iter,ifs,0⟩] scope pos) 0 (.ref ita) (.ref s₂.heap.objs.size) (compEnvC scope cl s₃.heap.objs.size X.env))
    (compPost (model X.prog X.w) X.A X.xe use Qv (.ref s₂.heap.objs.size) s₃.heap.objs.size) s₅:=by
   rintro s₅ rfl
   refine jX (fun n s6=>∃i σ6 H6 ρ6 σp6 h6,n=it.xs.length - i∧i≤it.xs.length∧Inv (bR X scope cl s₃ H₃ fp (vars++frees)) [] σ6 H6 s6∧tn i s6.heap∧(∀b∈fp,H6 b=none)∧Le (ρ1++[s₂.heap.objs.size]) H₃ ρ6 H6∧RS X.K ρ6 H6 σp6 σ6∧RH X.K X.mg ρ6 H6 h6 ∧
    Ful X (RV' X) σp ρ6 H6 ((cGo it h1.length gt mt me (it.xs.drop i) σp6 h6).bind fun _ h3=>.ok (.loc h1.length) h3) Q) ?_ it.xs.length
    ⟨0,σY,H₃,_,_,_,rfl,Nat.zero_le _,invY,T.keep _ _ _ st3 (fun b _ o e=>keep4 b o e),fun b hb=>(fp3 b hb).1,Le.refl _ _,rsY,rh3,by simpa using q3⟩
   rintro n s6 ⟨i,σ6,H6,ρ6,σp6,h6,rfl,hi6,I6,st6,fr6,l6,rs6,rh6,q6⟩
   have stat:∀{H':Hp},(∀b∈fp,H' b=none)→∀b∈fp,FpOk (bR X scope cl s₃ H₃ fp (vars++frees)) [] H' b:=fun {H'} hn b hb =>
    ⟨hn b hb,(ok.exf b hb).1,ok.exfs b hb,.inl hb,(ok.exf b hb).2,fun p hp=>absurd (show p∈([]:List (Addr × Obj)) from hp) (by simp)⟩
   by_cases hlt:i<it.xs.length
   ·have ed:it.xs.drop i=it.xs[i]::it.xs.drop (i+1):=List.drop_eq_getElem_cons hlt
    rw[ed] at q6
    simp only[cGo] at q6
    by_cases hok:it.ok h6
    ·rw[if_pos hok] at q6
     obtain ⟨j1,_⟩:=jr ρ6 H6 h6 i (l3.trans l6) rh6 hok
     obtain ⟨go,yl⟩:=j1 hlt
     refine thn (T.item (bR X scope cl s₃ H₃ fp (vars++frees)) rfl rfl rfl g.calm i [] s6 σ6 H6 (fun _ _=>False) I6 (stat fr6) st6 go) fun r s7 ⟨u,hr,h7⟩=>?_
     subst hr
     refine thn h7 fun _ s8 ⟨x8,H8,I8,r8,y8,st8,fr8⟩=>?_
     obtain ⟨ρ8,x,l8,rh8,ex,rx⟩:=yl x8 H8 y8
     have ex':x=it.xs[i]:=by rw[List.getElem?_eq_getElem hlt] at ex;exact (Option.some.inj ex).symm
     subst ex'
     have I8p:=I8.pinned (stat fr8) (T.obj _ _ st8)
     have q8:=Ful.le l8 q6
     have back:∀{σ9:L2.St} {H9:Hp} {s9:Shared},Inv (bR X scope cl s₃ H₃ fp (vars++frees)) ([]++fK fp s8.heap) σ9 H9 s9→Inv (bR X scope cl s₃ H₃ fp (vars++frees)) [] σ9 H9 s9∧tn (i+1) s9.heap∧∀b∈fp,H9 b=none:=fun {σ9 H9 s9} I9=>by
      refine ⟨I9.unpinned,T.keep _ _ _ st8 fun b hb o e=>(I9.pin (b,o) (List.mem_append_right _ (List.mem_append_right _ (dB hb e)))).1,fun b hb=>?_⟩
      obtain ⟨o,e,d⟩:=T.obj _ _ st8 b hb
      exact (I9.pin (b,o) (List.mem_append_right _ (List.mem_append_right _ (dB hb e)))).2.1
     cases eg:gt it.xs[i] σp6 h6 with
     | nx σp9 h9 =>
      rw[eg] at q8
      dsimp only at q8
      refine thn (hg _ s8 σ6 H8 x8 u (fun σ' H'=>∃ρ',Le ρ8 H8 ρ' H'∧RH X.K X.mg ρ' H' h9∧RS X.K ρ' H' σp9 σ') I8p r8 ⟨ρ8,σp6,h6,_,rs6.le l8,rh8,rx,by
       show FulG _ _ _ (gt it.xs[i] σp6 h6) _
       rw[eg];exact fun ρ' H' σ' l r s=>⟨ρ',l,r,s⟩⟩) fun _ s9 ⟨σ9,H9,I9,ρ9,l9,rh9,rs9⟩=>?_
      have q9:=Ful.le l9 q8
      cases em:mt σp9 h9 with
      | ok b h10 =>
       rw[em,Out.ne_ok] at q9
       rw[Out.bind_ok] at q9
       refine thn (ht _ s9 σ9 H9 (fun b' H'=>b'=b∧∃ρ',Le ρ9 H9 ρ' H'∧RH X.K X.mg ρ' H' h10) I9 ⟨ρ9,σp9,h9,rs9,rh9,by
        show Ful _ _ _ _ _ (mt σp9 h9) _
        rw[em];exact fun ρ' H' v' l r e=>⟨e.symm,ρ',l,r⟩⟩) fun b' s10 ⟨H10,I10,eb,ρ10,l10,rh10⟩=>?_
       subst eb
       have q10:=Ful.le l10 q9
       cases b' with
       | false =>
        rw[if_neg Bool.false_ne_true] at q10 ⊢
        obtain ⟨I10',st10,fr10⟩:=back I10
        exact ⟨_,by omega,i+1,σ9,H10,ρ10,σp9,h10,rfl,hlt,I10',st10,fr10,l6.trans (l8.trans (l9.trans l10)),rs9.le l10,rh10,q10⟩
       | true =>
        rw[if_pos rfl] at q10 ⊢
        cases ee:me σp9 h10 with
        | ok v h11 =>
         rw[ee,Out.ne_ok] at q10
         rw[Out.bind_ok] at q10
         refine thn (he _ s10 σ9 H10 (fun v' H'=>∃ρ',Le ρ10 H10 ρ' H'∧RH X.K X.mg ρ' H' h11∧RP X.K ρ' H' v v') I10 ⟨ρ10,σp9,h10,rs9.le l10,rh10,by
          show Ful _ _ _ _ _ (me σp9 h10) _
          rw[ee];exact fun ρ' H' v' l r e=>⟨ρ',l,r,e⟩⟩) fun u11 s11 ⟨v',H11,I11,ru11,ρ11,l11,rh11,rv11⟩=>?_
         have q11:=Ful.le l11 q10
         have lall:Le (ρ1++[s₂.heap.objs.size]) H₃ ρ11 H11:=l6.trans (l8.trans (l9.trans (l10.trans l11)))
         obtain ⟨oa,eoa,roa⟩:=rh11.obj (lall.get hrho)
         rw[eoa] at q11
         cases oa with
         | dic kvs=>exact q11.elim
         | exc x=>exact q11.elim
         | lst ys =>
          dsimp only at q11
          by_cases hl11:ys.length<sizeLine
          ·rw[if_pos hl11] at q11
           obtain ⟨ys',ey',ry⟩:=roa
           obtain ⟨rh12,l12⟩:=rh11.put (lall.get hrho) (o:=.lst (ys++[v])) (ho:=.lst (ys'++[v'])) ⟨_,rfl,ry.append (.cons rv11 .nil)⟩
           have ap:=iB (X:=bR X scope cl s₃ H₃ fp (vars++frees)) _ s11 σ9 H11 (.ref s₂.heap.objs.size) [v'] (.ref s₂.heap.objs.size) [u11] (fun _ H'=>H'=upd H11 s₂.heap.objs.size (.lst (ys'++[v']))) I11 rfl (.cons ru11 .nil) ⟨s₂.heap.objs.size,ys',v',rfl,rfl,ey',by rw[←ry.length];exact hl11,rfl⟩
           refine thn ap fun _ s12 ⟨_,H12,I12,_,eH⟩=>?_
           subst eH
           obtain ⟨I12',st12,fr12⟩:=back I12
           exact ⟨_,by omega,i+1,σ9,_,ρ11,σp9,_,rfl,hlt,I12',st12,fr12,lall.trans l12,(rs9.le l10).le (l11.trans l12),rh12,Ful.le l12 q11⟩
          ·rw[if_neg hl11] at q11;exact q11.elim
        | exc x h11=>rw[ee] at q10;exact q10.elim
        | bad=>rw[ee] at q10;exact q10.elim
      | exc x h10=>rw[em] at q9;exact q9.elim
      | bad=>rw[em] at q9;exact q9.elim
     | _=>rw[eg] at q8;exact q8.elim
    ·rw[if_neg hok] at q6;exact q6.elim
   ·have e:i=it.xs.length:=by omega
    rw[e,List.drop_length] at q6
    simp only[cGo] at q6
    by_cases hok:it.ok h6
    ·rw[if_pos hok] at q6
     obtain ⟨_,j2⟩:=jr ρ6 H6 h6 i (l3.trans l6) rh6 hok
     refine thn (T.done (bR X scope cl s₃ H₃ fp (vars++frees)) rfl rfl rfl g.calm i [] s6 σ6 H6 (fun _ _=>False) I6 (stat fr6) st6 (j2 (by omega))) fun r s7 ⟨hr,I7⟩=>?_
     subst hr
     obtain ⟨m7,ns7,_⟩:=I7.loc
     have IX:=I3.call' (s':=s7) (ch:=fp) I7.os I7.base I7.hok I7.bare fun b hb=>by
      obtain ⟨_,a2,_,a4,a5,a6⟩:=fp3 b hb
      exact ⟨a4,a2,a5,a6⟩
     exact fin _ _ H6 s7 m7 IX I7.free ns7 (Nat.ne_of_gt I3.lt) I3.sz (I3.nofs (Nat.le_refl _)) (fun x c e z=>by
      obtain ⟨v,qc⟩:=I3.cell x c e
      exact absurd qc.lt (by rw[z];exact Nat.lt_irrefl _)) (fun p hp z=>absurd (Heap.lt_size (I3.pin p hp).1) (by rw[z];exact Nat.lt_irrefl _)) (q6 ρ6 H6 _ (Le.refl _ _) rh6 (.loc (l6.get hrho)))
    ·rw[if_neg hok] at q6;exact q6.elim
  exact codeAny_compStart_list (loop _ rfl) (T.self X.A 0 _ _ _ (T.keep _ _ _ st3 (fun b _ o e=>keep4 b o e)) (loop _ rfl))
 exact goal3
theorem bY (g:Good X N W G k) {tg iter elt:Expr} {ifs:List Expr} {scope:Scope} {pos:Pos} {vars frees G':List Str} {fm:List Nat} {mi:Mx MIt} {gt:Mg} {mt:Mx Bool} {me:Mx PV} (C:CompOk X N scope vars frees fm)
  (nd:(vars++frees).Nodup) (hgl:∀x∈G',scope.names.lookup x=some .globalImplicit) (dbg:∀x∈(vars++frees)++G',(x == ("__debug__":Str))=false∧(x == ("__classdict__":Str))=false∧x≠"__name__")
  (hi:MI X tg iter mi)
  (hY:∀Y:Cx,Y.prog=X.prog→Y.w=X.w→Y.K=X.K→Y.mg=X.mg→Y.base=X.base→Y.env.scope=relabel scope X.env→Good Y (vars++frees) vars G' k→MG Y tg gt∧MTs Y ifs mt∧ME Y elt me)
  (hs:∀x,foldedSetIterable iter X.env x=pure x:=by intro _;rfl):ME X (.ListComp elt [⟨tg,iter,ifs,0⟩] scope pos) (bZ vars.length fm mi gt mt me):=by
 intro pins s σ H Q I tm
 rw[eval_ListComp]
 refine lN g C nd hgl dbg hi hY hs I tm fun acc D H6 s7 m7 IX hC ns hL hz hfs hcl hp q=>?_
 refine ⟨m7,ns,fun h'' hsb=>⟨.ref acc,H6,?_,rfl,q⟩⟩
 exact IX.turned (it:=D) (t':=s7.toks) (fun b o hb e=>hsb.extBut b o hb e) hC hL (.inr hz) hcl hp
end
abbrev bmVE:List Value:=[.type "ValueError",.type "Exception",.type "BaseException",.type "object"]
structure ExcK (K:PySem.W.Frag) (mg:MGl) (x:Str) (C:Addr):Prop where
 bd:mg x=some (.ref C)
 ok:PySem.W.excIn K C bmVE "ValueError.__new__"=true
abbrev ExcC (X:Cx) (x:Str) (C:Addr):Prop:=ExcK X.K X.mg x C
theorem exc_obj {K:PySem.W.Frag} {h:Heap} {C:Addr} {bmB:List Value} {newId:String} (hK:K.In h) (q:PySem.W.excIn K C bmB newId=true) :
  ∃bm N nm q bs hdct sn sub ab col dd k0 k1 k2 k3 k5 mN,h.get? C=some (excClassObj nm q C N bs bm hdct sn sub ab col dd k0 k1 k2 k3 k5 newId)∧h.Ns N mN∧mN "__init__"=none∧OwnTail h bmB bm∧∀base r,PySem.W.mroIn K C base=some r→(Value.ref C::bm).contains base=r:=by
 unfold PySem.W.excIn at q
 split at q
 ·rename_i dd cd sl ho
  split at q
  ·rename_i C' bm k0 k1 k2 k3 n k5 hm hs
   simp only[Bool.and_eq_true,beq_iff_eq,Bool.not_eq_true'] at q
   obtain ⟨⟨⟨⟨⟨rfl,rfl⟩,hdel⟩,ht⟩,hok⟩,hni⟩:=q
   obtain ⟨nm,bs,mro,ns,qn,hd,sn,sub,ab,col,del⟩:=cd
   dsimp only at hm hdel hok hni
   subst hm hdel
   have hsl:sl=#[k0,k1,k2,k3,some (.builtin n),k5]:=by
    obtain ⟨l⟩:=sl
    simp only at hs
    rw[hs]
   subst hsl
   exact ⟨bm,ns,nm,qn,bs,hd,sn,sub,ab,col,dd,k0,k1,k2,k3,k5,_,hK _ _ ho,.of_isNs (PySem.W.isNs_of_in hK hok),PySem.W.nsMap_none_of_in hK hok hni,PySem.W.tail_of_in hK ht,fun base r e=>by
    unfold PySem.W.mroIn PySem.W.clsIn at e
    rw[ho] at e
    simpa using e⟩
  ·cases q
 ·cases q
section
variable {X:Cx} {N W G:List Str} {k:Nat}
noncomputable def eQ (x:Str) (m:Mx (List PV)):Mst:=mEx m fun vs σ h=>if vs.length≤sizeLine then .rse ⟨x,[]⟩ σ h else .bad
theorem nJ (g:Good X N W G k) {x:Str} {j:Nat} {C:Addr} (hj:G[j]?=some x) (EC:ExcC X x C) {e:Expr} {es:List Expr} {m:Mx (List PV)} {np cpos pos:Pos} (ha:MA X (e::es) m)
  (he:starEach (e::es) X.env=(false,eval e X.env)::starEach es X.env:=by rfl) (hpl:(backTo cpos (starEach es X.env)).any (·.1)=false:=by rfl) :
  MS X (.Raise (some (.Call (.Name x np) (e::es) [] cpos)) none pos) (eQ x m):=by
 intro pins s σ H D I ⟨ρ,σp,h,rs,rh,q⟩
 have d:=g.dbg x (List.mem_append_right _ (aC hj))
 obtain ⟨bm,Nn,nm,qn,bs,hdct,sn,sub,ab,col,dd,k0,k1,k2,k3,k5,mN,hC,hN,hni,T,_⟩:=exc_obj I.mod.kin EC.ok
 refine wpAny_Raise_call_subT (C:=C) (nm:=nm) (q:=qn) (N:=Nn) (bs:=bs) (bm:=bm) (hdct:=hdct) (sn:=sn) (sub:=sub) (ab:=ab) (col:=col) (dd:=dd) (k0:=k0) (k1:=k1) (k2:=k2) (k3:=k3) (k5:=k5)
  PySem.F.excBase_ValueError (mN:=mN) (T.hasType PySem.F.excBase_ValueError.hasBase) (I.ok.hd g.calm) (by rw[he];show (false || (backTo cpos (starEach es X.env)).any (·.1))=false;rw[hpl];rfl) hni (k6 I (g.gl x (aC hj)) EC.bd ⟨rfl,?_⟩ d.1)
 have A:=ha cpos pins s σ H (fun vs H1=>∃ρ1 xs h1,Le ρ H ρ1 H1∧RH X.K X.mg ρ1 H1 h1∧RPs X.K ρ1 H1 xs vs∧FulS X ρ1 H1 (if xs.length≤sizeLine then .rse ⟨x,[]⟩ σp h1 else .bad) D) I
  ⟨ρ,σp,h,rs,rh,FulS.ex q fun ρ1 H1 v v' h1 l r z w=>⟨ρ1,v,h1,l,r,z,w⟩⟩
 rw[he] at A ⊢
 refine Calls.evalArgs_plain (wpAny_mono A (fun us s2 ⟨vs,H1,I1,rv,ρ1,xs,h1,l1,rh1,rx,w⟩=>?_) fun _ _ y=>y)
 by_cases hl:xs.length≤sizeLine
 ·rw[if_pos hl] at w
  refine ⟨rfl,by rw[←rv.length,←rx.length];exact hl,I1.bk _ _ hC,hN.keeps I1.bk,T.keeps I1.bk,fun h' ea made=>?_⟩
  have I0:Inv X [] σ H1 { ({ s2 with heap:=h'}:Shared) with heap:=s2.heap}:=Inv.unpinned (pins:=[]) (pl:=pins) I1
  exact w ea C ρ1 H1 σ { s2 with heap:=h'} s2.heap us rfl EC.bd (Le.refl _ _) rh1 (rs.le l1) I0 made
 ·rw[if_neg hl] at w;exact w.elim
end
section
variable {X:Cx} {N W G:List Str} {k:Nat} {σ:L2.St} {H:Hp} {s:Shared}
end
section
variable {prog:Program} {w:World} {A:Around} {E:Value→Shared→Prop} {h:Heap} {g:Array GenState} {d:Drawn} {t:Nat} {os:OsState} {a C:Addr} {o:Obj} {K:PySem.W.Frag}
end
section
variable {X:Cx} {N W G:List Str} {k:Nat}
end
section
variable {X:Cx} {N W G:List Str} {k:Nat}
end
section
variable {X:Cx} {N W G:List Str} {k:Nat}
theorem iD (g:Good X N W G k) {x:Str} {j:Nat} (hj:G[j]?=some x) (EC:∃C,ExcC X x C) {e:Expr} {es:List Expr} {m:Mx (List PV)} {np cpos pos:Pos} (ha:MA X (e::es) m)
  (he:starEach (e::es) X.env=(false,eval e X.env)::starEach es X.env:=by rfl) (hpl:(backTo cpos (starEach es X.env)).any (·.1)=false:=by rfl) :
  MS X (.Raise (some (.Call (.Name x np) (e::es) [] cpos)) none pos) (eQ x m):=let ⟨_,h⟩:=EC;nJ g hj h ha he hpl
theorem Cal.at {Y:Cx} {x:Str} {ps:List Str} {F:List PV→MH→Out PV} {i:Nat} (e1:Y.prog=X.prog) (e2:Y.w=X.w) (e3:Y.K=X.K) (e4:Y.mg=X.mg) (e5:Y.base=X.base) (c:Cal X x ps F i):Cal Y x ps F i:=c.to e1 e2 e3 e4 e5
end
end MM
namespace MM
open PySem PySem.Spec PyProof.Rows L2
theorem compOk {X:Cx} {N:List Str} {scope sc:Scope} {vars frees:List Str} {fm:List Nat} (hsc:X.env.scope=sc) (h1:scope.kind=.function) (h2:∀y∈scope.names,y.2≠.cell) (h3:∀y∈scope.names,y.2=.local→scope.names.lookup y.1=some .local) (h4:∀x∈vars,scope.names.lookup x=some .local)
  (h5:∀x∈frees,scope.names.lookup x=some .free) (h6:∀y∈scope.names,y.2=.free→y.1∈frees) (h7:fm.map (fun i=>N[i]?)=frees.map some) (h8:∀x∈frees,sc.names.lookup x=some .cell):CompOk X N scope vars frees fm :=
 ⟨h1,h2,h3,h4,h5,h6,h7,fun x hx=>by rw[←hsc] at h8;exact h8 x hx⟩
end MM
namespace MM
open PySem PySem.Spec PyProof.Rows L2
noncomputable local instance (priority:=1) cdec16 (p:Prop):Decidable p:=Classical.propDecidable p
section
variable {σ:PSt} {h:MH}
@[simp] theorem mRaise_ap {x:Str} {m:Mx (List PV)}:eQ x m σ h=(m σ h).go σ fun vs σ h=>if vs.length≤sizeLine then .rse ⟨x,[]⟩ σ h else .bad:=rfl
@[simp] theorem mComp_ap {nv:Nat} {fm:List Nat} {mi:Mx MIt} {gt:Mg} {mt:Mx Bool} {me:Mx PV}:bZ nv fm mi gt mt me σ h =
 (mi σ h).bind fun it h1=>(cGo it h1.length gt mt me it.xs (cSt nv fm σ) (h1++[.lst []])).bind fun _ h3=>.ok (.loc h1.length) h3:=rfl
theorem app_0 {o:MO} {g:MH}:(h++o::g)[h.length]?=some o:=by simp
end
end MM
namespace MM
open PySem PySem.Spec PyProof.Rows L2
end MM
namespace MM
open PySem PySem.Spec PyProof.Rows L2
noncomputable local instance (priority:=1) cdec18 (p:Prop):Decidable p:=Classical.propDecidable p
noncomputable def mMt (f:Nat→List PV→MH→Out PV) (m:Mx PV) (ma:Mx (List PV)):Mx PV:=fun σ h=>(m σ h).bind fun o h1=>match o with
 | .loc n=>(match h1[n]? with
  | some (.lst _)=>(ma σ h1).bind fun vs h2=>(f n vs h2).ne
  | _=>.bad)
 | _=>.bad
def eK (n:Nat) (vs:List PV) (h:MH):Out PV:=match vs,h[n]? with
 | [v],some (.lst xs)=>if xs.length<sizeLine then .ok .non (h.set n (.lst (xs++[v]))) else .bad
 | _,_=>.bad
def fS (n:Nat) (vs:List PV) (h:MH):Out PV:=match vs,h[n]? with
 | [],some (.lst _)=>.ok .non (h.set n (.lst []))
 | _,_=>.bad
section
variable {X:Cx} {N W G:List Str} {k:Nat}
def mtJ (X:Cx) (f:Nat→List PV→MH→Out PV):V→List V→Hp→VK→Prop:=fun x vs H Q=>∃ρ h n a ps,x=.ref a∧ρ[n]?=some a∧RH X.K X.mg ρ H h∧RPs X.K ρ H ps vs∧Ful0 X (RV' X) ρ H (f n ps h) Q
theorem ng:MtR X "list.append" (mtJ X eK):=by
 intro pins s σ H x vs v us Q I rx rv ⟨ρ,h,n,a,ps,e,en,rh,rp,q⟩
 subst e
 obtain ⟨o,eo,ro⟩:=rh.obj en
 unfold eK at q
 cases rp with
 | nil=>rw[eo] at q;exact q.elim
 | cons r1 t1 =>
  cases t1 with
  | cons _ _=>rw[eo] at q;exact q.elim
  | nil =>
   rw[eo] at q
   cases o with
   | lst xs =>
    dsimp only at q
    by_cases hl:xs.length<sizeLine
    ·rw[if_pos hl] at q
     obtain ⟨ys,ey,ry⟩:=ro
     obtain ⟨rh',l'⟩:=rh.put en (o:=.lst (xs++[_])) (ho:=.lst (ys++[_])) ⟨_,rfl,ry.append (.cons r1 .nil)⟩
     exact iB pins s σ H _ _ v us Q I rx rv ⟨a,ys,_,rfl,rfl,ey,by rw[←ry.length];exact hl,q ρ _ .non l' rh' .non⟩
    ·rw[if_neg hl] at q;exact q.elim
   | _=>exact q.elim
theorem nB:MtR X "list.clear" (mtJ X fS):=by
 intro pins s σ H x vs v us Q I rx rv ⟨ρ,h,n,a,ps,e,en,rh,rp,q⟩
 subst e
 obtain ⟨o,eo,ro⟩:=rh.obj en
 unfold fS at q
 cases rp with
 | cons _ _=>rw[eo] at q;exact q.elim
 | nil =>
  rw[eo] at q
  cases o with
  | lst xs =>
   obtain ⟨ys,ey,ry⟩:=ro
   obtain ⟨rh',l'⟩:=rh.put en (o:=.lst []) (ho:=.lst []) ⟨_,rfl,.nil⟩
   exact nX pins s σ H _ _ v us Q I rx rv ⟨a,ys,rfl,rfl,ey,q ρ _ .non l' rh' .non⟩
  | _=>exact q.elim
variable {o e:Expr} {es:List Expr} {name:Str} {apos cpos:Pos} {id:String} {f:Nat→List PV→MH→Out PV} {m:Mx PV} {ma:Mx (List PV)}
theorem tM_mt {ta:TA} (hna:∀σ H Q,tM X (RVs' X) ma σ H Q→ta σ H Q) {σ:L2.St} {H:Hp} {Q:VK} (tm:tM X (RV' X) (mMt f m ma) σ H Q):tM X (RV' X) m σ H (fun x H1=>tyV X.K "list" x H1∧ta σ H1 fun xs H2=>mtJ X f x xs H2 Q):=by
 obtain ⟨ρ,σp,h,rs,rh,q⟩:=tm
 refine ⟨ρ,σp,h,rs,rh,?_⟩
 unfold mMt at q
 refine Ful.bind q fun ρ1 H1 x x' h1 _ l1 rh1 rx q1=>?_
 cases rx with
 | @loc n a en =>
  obtain ⟨ob,eo,ro⟩:=rh1.obj en
  dsimp only at q1
  rw[eo] at q1
  cases ob with
  | lst xs =>
   obtain ⟨ys,ey,ry⟩:=ro
   refine ⟨.inl ⟨rfl,ys,SqL.of ey⟩,hna σ H1 _ ⟨ρ1,σp,h1,rs.le l1,rh1,?_⟩⟩
   exact Ful.bind q1 fun ρ2 H2 vs vs' h2 _ l2 rh2 rvs q2=>⟨ρ2,h2,n,a,vs,rfl,l2.get en,rh2,rvs,q2.zero⟩
  | _=>exact q1.elim
 | _=>exact q1.elim
theorem me_bm (slot:Slot "list" name id) (hty:typeOf (.builtin id)=pure (.type "method_descriptor")) (hm:MtR X id (mtJ X f)) (ho:ME X o m) (ha:MA X (e::es) ma)
  (hbase:attributeBase o name X.env (eval o X.env)=eval o X.env:=by rfl)
  (hfew:((backTo cpos (starEach (e::es) X.env)).all (fun x=>!x.1) && (backToKw cpos (keywordEach [] X.env)).all (fun x=>x.1.isSome)
   && decide ((e::es).length+([]:List Keyword).length+(if ([]:List Keyword).isEmpty then 0 else 1)<30))=true:=by rfl)
  (hline:(apos.endLine == cpos.line)=true:=by rfl) (hs:starEach (e::es) X.env=(false,eval e X.env)::starEach es X.env:=by rfl) (hplain:(backTo cpos (starEach es X.env)).any (·.1)=false:=by rfl) :
  ME X (.Call (.Attribute o name apos) (e::es) [] cpos) (mMt f m ma) :=
 PE.imp (pe_bm PySem.F.plainAttrs_list slot hty hm ho ha hbase hfew hline hs hplain) fun σ H Q q=>tM_mt (fun _ _ _ z=>z) q
theorem me_bm0 (slot:Slot "list" name id) (hty:typeOf (.builtin id)=pure (.type "method_descriptor")) (hm:MtR X id (mtJ X f)) (ho:ME X o m)
  (hbase:attributeBase o name X.env (eval o X.env)=eval o X.env:=by rfl) (hline:(apos.endLine == cpos.line)=true:=by rfl) :
  ME X (.Call (.Attribute o name apos) [] [] cpos) (mMt f m mNil) :=
 PE.imp (pe_bm0 PySem.F.plainAttrs_list slot hty hm ho hbase hline) fun σ H Q q=>by
  have z:=tM_mt (ma:=mNil) (ta:=fun σ H Q=>Q [] H) (fun σ H Q ⟨ρ,σp,h,rs,rh,z⟩=>z ρ H [] (Le.refl _ _) rh .nil) q
  exact z
@[simp] theorem mMt_ap {σ:PSt} {h:MH}:mMt f m ma σ h=(m σ h).bind fun o h1=>match o with
 | .loc n=>(match h1[n]? with
  | some (.lst _)=>(ma σ h1).bind fun vs h2=>(f n vs h2).ne
  | _=>.bad)
 | _=>.bad:=rfl
end
end MM
namespace MM
open PySem PySem.Spec PyProof.Rows L2
end MM
namespace MM
open PySem PySem.Spec PyProof.Rows L2
noncomputable local instance (priority:=1) cdec20 (p:Prop):Decidable p:=Classical.propDecidable p
def cG (h:MH):PV→Option (List PV)
 | .tup xs=>some xs
 | .frl xs=>some xs
 | .loc n=>(match h[n]? with
  | some (.lst xs)=>some xs
  | _=>none)
 | _=>none
section
variable {X:Cx} {N W G:List Str} {k:Nat}
theorem kW {ρ:List Addr} {H:Hp} {h:MH} {x:PV} {x':V} {xs:List PV} (rh:RH X.K X.mg ρ H h) (rx:RP X.K ρ H x x') (e:cG h x=some xs):∃a ys,x'=.ref a∧(SqL X.K H a ys∨SqT X.K H a ys)∧RPs X.K ρ H xs ys:=by
 cases rx with
 | tup s r=>cases e;exact ⟨_,_,rfl,.inr s,r⟩
 | frl s r=>cases e;exact ⟨_,_,rfl,.inl s.sq,r⟩
 | @loc n a en =>
  obtain ⟨o,eo,ro⟩:=rh.obj en
  simp only[cG,eo] at e
  cases o with
  | lst ys =>
   cases e
   obtain ⟨zs,ez,rz⟩:=ro
   exact ⟨a,zs,rfl,.inl (SqL.of ez),rz⟩
  | _=>cases e
 | _=>cases e
variable {a b c:Expr} {ma mb mc:Mx PV} {f g':PV→PV→MH→Out PV} {op op':CmpOp} {pos:Pos}
noncomputable def fList (xs:List PV) (h:MH):Out PV:=match xs with
 | [x]=>(match cG h x with
  | some ys=>newL ys h
  | none=>.bad)
 | _=>.bad
noncomputable def fTuple (xs:List PV) (h:MH):Out PV:=match xs with
 | [x]=>(match cG h x with
  | some ys=>.ok (.tup ys) h
  | none=>.bad)
 | _=>.bad
theorem cj_list:dy X (.type "list") fList:=by
 intro pins s σ H xs us Q I r ⟨ρ,h,ps,rh,rp,q⟩
 cases rp with
 | nil=>exact q.elim
 | cons r1 t1 =>
  cases t1 with
  | cons _ _=>exact q.elim
  | nil =>
   rename_i x y
   unfold fList at q
   cases es:cG h x with
   | none=>simp only[es] at q;exact q.elim
   | some ys =>
    simp only[es] at q
    obtain ⟨a,zs,rfl,hsq,rzs⟩:=kW rh r1 es
    obtain ⟨_,q'⟩:=gc rh rzs q
    exact jT pins s σ H _ us Q I r ⟨a,zs,rfl,hsq,q'⟩
theorem jM:dy X (.type "tuple") fTuple:=by
 intro pins s σ H xs us Q I r ⟨ρ,h,ps,rh,rp,q⟩
 cases rp with
 | nil=>exact q.elim
 | cons r1 t1 =>
  cases t1 with
  | cons _ _=>exact q.elim
  | nil =>
   rename_i x y
   unfold fTuple at q
   cases es:cG h x with
   | none=>simp only[es] at q;exact q.elim
   | some ys =>
    simp only[es] at q
    obtain ⟨a,zs,rfl,hsq,rzs⟩:=kW rh r1 es
    rcases hsq with hq|hq
    ·refine fq pins s σ H _ us Q I r ⟨a,zs,rfl,.inl ⟨hq,fun l hl=>?_⟩⟩
     obtain ⟨r',l'⟩:=rh.tup hl zs
     exact q ρ _ _ l' r' (.tup (SqT.of bS) (rzs.le l'))
    ·exact fq pins s σ H _ us Q I r ⟨a,zs,rfl,.inr ⟨hq,q ρ H _ (Le.refl _ _) rh (.tup hq rzs)⟩⟩
end
section
variable {X:Cx} {N W G:List Str} {k:Nat}
end
section
variable {X:Cx} {N W G:List Str} {k:Nat}
end
end MM
namespace SetT
end SetT
namespace SortT
end SortT
namespace MM
open PySem PySem.Spec PyProof.Rows L2 SetT SortT
section
variable {X:Cx} {pins:List (Addr × Obj)} {σ:L2.St} {H:Hp} {s:Shared}
end
section
variable {X:Cx} {N W G:List Str} {k:Nat}
end
end MM
namespace SeqT
open PySem
abbrev itN (tp:Bool):String:=if tp then "tuple_iterator" else "list_iterator"
abbrev sqN (tp:Bool):String:=if tp then "tuple" else "list"
def SqI (tp:Bool) (h:Heap) (it a:Addr) (i:Nat):Prop:=∃o,h.get? it=some o∧o.cls=.type (itN tp)∧o.data=.fields #[.ref a,.int i 0]
def SqO (tp:Bool) (h:Heap) (a:Addr) (xs:Array Value):Prop:=∃o,h.get? a=some o∧o.cls=.type (sqN tp)∧∃n,o.data=.seq xs n
theorem SqI.at' {tp:Bool} {h h':Heap} {it a:Addr} {i:Nat} (x:SqI tp h it a i) (k:∀o,h.get? it=some o→h'.get? it=some o):SqI tp h' it a i:=let ⟨o,e,r⟩:=x;⟨o,k o e,r⟩
theorem SqO.at' {tp:Bool} {h h':Heap} {a:Addr} {xs:Array Value} (x:SqO tp h a xs) (k:∀o,h.get? a=some o→h'.get? a=some o):SqO tp h' a xs:=let ⟨o,e,r⟩:=x;⟨o,k o e,r⟩
theorem SqI.lt {tp:Bool} {h:Heap} {it a:Addr} {i:Nat} (x:SqI tp h it a i):it<h.objs.size:=let ⟨_,e,_⟩:=x;Heap.lt_size e
section
variable {prog:Program} {w:World} {A:Around} {E:Value→Shared→Prop} {s:Shared}
theorem lR {tp:Bool} {it a:Addr} {i:Nat} {xs:Array Value} {x:Value} {Q:Value→Shared→Prop} (hi:SqI tp s.heap it a i) (ho:SqO tp s.heap a xs) (hx:xs[i]?=some x)
  (hQ:∀h',SqI tp h' it a (i+1)→Heap.SameBut it s.heap h'→Q x { s with heap:=h'}):wpAny (model prog w) A (Builtin.SmallTypes.nextOf (.ref it)) Q E s:=by
 cases tp with
 | false=>exact wpAny_nextOf_list_item (show s.heap.IsListIter it a i from hi) (show s.heap.IsList a xs from ho) hx hQ
 | true =>
  obtain ⟨o,e,hc,hd⟩:=id hi
  obtain ⟨ol,hol,_,nl,hdl⟩:=ho
  have hT:s.TypeIs (.ref it) "tuple_iterator":=⟨o,e,hc⟩
  unfold Builtin.SmallTypes.nextOf
  refine wpAny_bind (wpAny_callSpecial?_slot (name:=Str.ofString "__next__") hT F.slot_tuple_iterator_next (wpAny_call_entry F.slot_tuple_iterator_next hT F.entry_tuple_iterator_next ?_ (F.args_tuple_iterator_next_1 _)))
  show wpAny _ _ (field (.ref it) 0 >>= _) _ _ s
  refine wpAny_bind (wpAny_field e hd (x:=.ref a) rfl ?_)
  show wpAny _ _ (if (Value.ref a == Value.none)=true then _ else _) _ _ s
  rw[if_neg (show ¬((Value.ref a == Value.none)=true) from Bool.false_ne_true)]
  show wpAny _ _ (field (.ref it) 1 >>= _) _ _ s
  refine wpAny_bind (wpAny_field e hd (x:=.int i 0) rfl ?_)
  show wpAny _ _ (seqItems? (.ref a) >>= _) _ _ s
  refine wpAny_bind (wpAny_seqItems hol hdl ?_)
  simp only[Int.toNat_natCast,hx]
  refine wpAny_bind (wpAny_setField e hd (by simp) (wpAny_pure ⟨x,rfl,wpAny_pure (hQ _ ?_ (Heap.SameBut.update ..))⟩))
  exact ⟨_,Heap.get?_update_self _ e (Obj.isFreed_of_fields (Obj.data_mapFields hd _)),(Obj.cls_mapFields ..).trans hc,by rw[Obj.data_mapFields hd];simp[rawInt]⟩
theorem jq {tp:Bool} {it a:Addr} {i:Nat} {xs:Array Value} {Q:Value→Shared→Prop} (hh:A.handled=none) (hi:SqI tp s.heap it a i) (ho:SqO tp s.heap a xs) (hx:xs[i]?=none)
  (hE:∀h' e,Heap.ExtBut it s.heap h'→(∃o,h'.get? e=some o∧o.cls=.type "StopIteration")→E (.ref e) { s with heap:=h'}):wpAny (model prog w) A (Builtin.SmallTypes.nextOf (.ref it)) Q E s:=by
 cases tp with
 | false=>exact wpAny_nextOf_list_end hh (show s.heap.IsListIter it a i from hi) (show s.heap.IsList a xs from ho) hx hE
 | true =>
  obtain ⟨o,e,hc,hd⟩:=id hi
  obtain ⟨ol,hol,_,nl,hdl⟩:=ho
  have hT:s.TypeIs (.ref it) "tuple_iterator":=⟨o,e,hc⟩
  unfold Builtin.SmallTypes.nextOf
  refine wpAny_bind (wpAny_callSpecial?_slot (name:=Str.ofString "__next__") hT F.slot_tuple_iterator_next (wpAny_call_entry F.slot_tuple_iterator_next hT F.entry_tuple_iterator_next ?_ (F.args_tuple_iterator_next_1 _)))
  show wpAny _ _ (field (.ref it) 0 >>= _) _ _ s
  refine wpAny_bind (wpAny_field e hd (x:=.ref a) rfl ?_)
  show wpAny _ _ (if (Value.ref a == Value.none)=true then _ else _) _ _ s
  rw[if_neg (show ¬((Value.ref a == Value.none)=true) from Bool.false_ne_true)]
  show wpAny _ _ (field (.ref it) 1 >>= _) _ _ s
  refine wpAny_bind (wpAny_field e hd (x:=.int i 0) rfl ?_)
  show wpAny _ _ (seqItems? (.ref a) >>= _) _ _ s
  refine wpAny_bind (wpAny_seqItems hol hdl ?_)
  simp only[Int.toNat_natCast,hx]
  refine wpAny_bind (wpAny_rule (wpAny_bind (wpAny_setField e hd (by simp) ?_)))
  show wpAny _ _ (newExc (.type "StopIteration") [] >>= _) _ _ _
  refine wpAny_bind ?_
  simp only[newExc,newTuple]
  refine wpAny_bind (wpAny_newObj_type ?_ (by size_fits))
  refine wpAny_bind (m:=firstArgMember _ _) (wpAny_of_eq (a:=Value.none) (by first | rfl | (simp only[firstArgMember];rfl)) ?_)
  refine wpAny_newObj_type ?_ (by size_fits)
  simp only[raiseNew]
  refine wpAny_bind (wpAny_handled ?_)
  rw[show A.in1.handled=none from hh]
  refine wpAny_bind (wpAny_pure (wpAny_throw ?_))
  exact hE _ _ (((Heap.SameBut.update ..).extBut.push _).push _) ⟨_,Heap.get?_push_size _ rfl,rfl⟩
theorem iy {tp:Bool} {a:Addr} {xs:Array Value} {Q:Value→Shared→Prop} (ho:SqO tp s.heap a xs)
  (hQ:Q (.ref s.heap.objs.size) { s with heap:=s.heap.push { cls:=.type (itN tp),data:=.fields #[.ref a,.int 0 0]}}):wpAny (model prog w) A (pyIter (.ref a)) Q E s:=by
 cases tp with
 | false=>exact wpAny_pyIter_list (show s.heap.IsList a xs from ho) hQ
 | true=>exact wpAny_pyIter_tuple (show s.heap.IsTuple a xs from ho) hQ
end
theorem draws {prog:Program} {w:World} {A:Around} (hh:A.handled=none) (tp:Bool) (it a:Addr) (hne:a≠it) (xs:Array Value) :
  Draws prog w A it [it,a] xs.size (fun i v=>xs[i]?=some v) (fun i h=>SqI tp h it a i∧SqO tp h a xs) where
 live:=fun _ _ st=>let ⟨o,ho,_⟩:=st.1;⟨o,ho⟩
 frame:=fun _ _ _ st hk=>⟨st.1.at' fun o e=>hk it (by simp) o e,st.2.at' fun o e=>hk a (by simp) o e⟩
 item:=fun i s Q E hi st hQ=>by
  refine lR st.1 st.2 (x:=xs[i]) (by simp[hi]) fun h' hit' hs'=>?_
  exact hQ _ h' s.toks (by simp[hi]) ⟨hit',st.2.at' fun o e=>(hs'.2 a hne).trans e⟩ hs'
 done:=fun s Q E st hE=>jq hh st.1 st.2 (by simp) hE
theorem nA (tp:Bool) (a:Addr) (xs:Array Value) (n:Nat) (dct:Option Addr) (sl:Array (Option Value)) :
  Meets (Builtin.«enumerate.__new__» ⟨[.type "enumerate",.ref a],[]⟩) (fun _ R s=>s.heap.get? a=some { cls:=.type (sqN tp),dict:=dct,data:=.seq xs n,slots:=sl} ∧
   R (.ok (.ret (.ref (s.heap.push { cls:=.type (itN tp),data:=.fields #[.ref a,.int 0 0]}).objs.size)))
    { s with heap:=(s.heap.push { cls:=.type (itN tp),data:=.fields #[.ref a,.int 0 0]}).push { cls:=.type "enumerate",data:=.fields #[.none,.bool false,.ref s.heap.objs.size,rawInt 0,.none,.none]}}) :=
 .of_wp fun prog w A R s h=>by
  obtain ⟨hp,g,d,tk,os⟩:=s;obtain ⟨hl,h⟩:=h
  have hsub:=sub_enumerate
  have hL:SqO tp (Shared.heap ⟨hp,g,d,tk,os⟩) a xs:=⟨_,hl,rfl,n,rfl⟩
  wp_walk using AutoSeq1.wpAny_loadPart' hl
  refine wpAny_stack_any fun st=>wpAny_pure ?_
  split
  ·rename_i c _ _ _ _ _
   cases (c == Value.type "enumerate")
   ·wp_walk using AutoSeq1.wpAny_loadPart' hl,iy hL
    exact ⟨_,rfl,h⟩
   ·wp_walk using AutoSeq1.wpAny_loadPart' hl,iy hL
    exact ⟨_,rfl,h⟩
  ·wp_walk using AutoSeq1.wpAny_loadPart' hl,iy hL
   exact ⟨_,rfl,h⟩
section
variable {prog:Program} {w:World} {A:Around} {E:Value→Shared→Prop} {s:Shared}
theorem mm {tp:Bool} {a:Addr} {xs:Array Value} {Q:Value→Shared→Prop} (hL:SqO tp s.heap a xs)
  (h:∀h',IsEnum h' (s.heap.objs.size+1) s.heap.objs.size 0 .none→SqI tp h' s.heap.objs.size a 0→h'.objs.size=s.heap.objs.size+2 →
   (∀b o,s.heap.get? b=some o→h'.get? b=some o)→Q (.ref (s.heap.objs.size+1)) { s with heap:=h'}) :
  wpAny (model prog w) A (call (.type "enumerate") [.ref a]) Q E s:=by
 obtain ⟨⟨c,dct,dt,sl⟩,hl,hc,n,hd⟩:=hL
 replace hc:c=.type (sqN tp):=hc
 replace hd:dt=.seq xs n:=hd
 subst hc hd
 refine callType_new F.called_enumerate (by decide) (F.typeCall_enumerate_1 _) (F.newCall_enumerate_1 _) (fun obj=>F.args_object_init_2 obj _) F.entry_enumerate_new (nA tp a xs n dct sl) ⟨hl,?_⟩
 have hz:(s.heap.push { cls:=.type (itN tp),data:=.fields #[.ref a,.int 0 0]}).objs.size=s.heap.objs.size+1:=Heap.size_push ..
 show _∧_
 rw[hz]
 have he:IsEnum ((s.heap.push { cls:=.type (itN tp),data:=.fields #[.ref a,.int 0 0]}).push
   { cls:=.type "enumerate",data:=.fields #[.none,.bool false,.ref s.heap.objs.size,rawInt 0,.none,.none]}) (s.heap.objs.size+1) s.heap.objs.size 0 .none:=by
  have:=Heap.get?_push_size (s.heap.push { cls:=.type (itN tp),data:=.fields #[.ref a,.int 0 0]})
   (o:={ cls:=.type "enumerate",data:=.fields #[.none,.bool false,.ref s.heap.objs.size,rawInt 0,.none,.none]}) rfl
  rw[hz] at this;exact this
 exact ⟨⟨_,he,rfl⟩,h _ he ⟨_,Heap.get?_push_of_some _ (Heap.get?_push_size _ rfl),rfl,rfl⟩ (by rw[Heap.size_push,hz]) fun b o x=>Heap.get?_push_of_some _ (Heap.get?_push_of_some _ x)⟩
end
section
variable {prog:Program} {w:World} {A:Around} {E:Value→Shared→Prop} {s:Shared}
variable {z TI TO i1 i2 l1 l2:Addr} {t1 t2:Bool} {k1 k2:Nat} {xs ys:Array Value}
end
section
variable {prog:Program} {w:World} {A:Around} {E:Value→Shared→Prop} {s:Shared}
end
end SeqT
namespace MM
open PySem PySem.Spec PyProof.Rows L2 SeqT
def SqB (tp:Bool) (K:PySem.W.Frag) (H:Hp) (a:Addr) (ys:List V):Prop:=match tp with
 | true=>SqT K H a ys
 | false=>SqL K H a ys
section
variable {X:Cx} {pins:List (Addr × Obj)} {σ:L2.St} {H:Hp} {s:Shared}
theorem jz (I:Inv X pins σ H s) {tp:Bool} {a:Addr} {ys:List V} (h:SqB tp X.K H a ys):∃its:List Value,Vals ys its∧SqO tp s.heap a its.toArray∧ys.length≤sizeLine:=by
 cases tp with
 | true =>
  obtain ⟨its,rv,pl,hz⟩:=I.tuple h
  exact ⟨its,rv,pl,hz⟩
 | false =>
  obtain ⟨its,rv,pl,hz⟩:=I.list h
  exact ⟨its,rv,pl.isList,hz⟩
theorem inv_sqi (I:Inv X pins σ H s) {tp:Bool} {a:Addr} {xs ys:List V} (h:SqB tp X.K H a xs) (h':SqB tp X.K H a ys):xs=ys:=by
 cases tp with
 | true=>exact I.tuple_inj h h'
 | false=>exact I.list_inj h h'
theorem g9 (I:Inv X pins σ H s) {h':Heap} {t':Nat} {ch:List Addr} (hf:∀b∈ch,FpOk X pins H b) (k:∀b o,b∉ch→s.heap.get? b=some o→h'.get? b=some o) :
  Inv X pins σ H { s with heap:=h',toks:=t'}:=by
 have nit:∀b u,H b=some u→b∉ch:=fun b u e z=>by rw[(hf b z).1] at e;cases e
 refine I.step (g':=s.gens) (d':=s.drawn) (ch:=ch) (fun b hb=>?_) (fun b o _ _ hc e _=>k b o hc e) (fun b o _ _ hc e _=>⟨o.slots,k b o hc e⟩) (fun _ _ _ _ n=>n)
  (fun b o hc e=>⟨o,k b o hc e⟩) (fun _ _ e=>e) (fun _ _ _ e=>e) (fun b ps e=>⟨#[],by rw[e];simp⟩) (fun m hm=>?_) (fun b u e=>?_) I.bare
 ·obtain ⟨f0,f1,f2,f3,f4,f5⟩:=hf b hb
  exact ⟨f3,f1,f4,f5⟩
 ·obtain ⟨o,es,ep,ho,r⟩:=hm
  exact ⟨o,es,ep,k _ o (fun z=>(hf _ z).2.1 rfl) ho,r⟩
 ·refine (I.hok b u e).stay (fun c v hc q=>k c v ?_ q) (fun _ q=>q) fun _ _ q=>q
  rcases hc with z|z
  ·rw[z];exact nit b u e
  ·exact nit c _ z
theorem inv_tup (I:Inv X pins σ H s) {h':Heap} {t':Nat} {ch:List Addr} {ys:List V} {its:List Value} (hf:∀b∈ch,FpOk X pins H b) (rv:Vals ys its) (hz:ys.length≤sizeLine) (hch:s.heap.objs.size∉ch)
  (ht:h'.get? s.heap.objs.size=some { cls:=.type "tuple",data:=.seq its.toArray}) (k:∀b o,b∉ch→s.heap.get? b=some o→h'.get? b=some o) :
  Inv X pins σ (upd H s.heap.objs.size (.tup ys)) { s with heap:=h',toks:=t'}∧(∀b∈ch,(upd H s.heap.objs.size (.tup ys)) b=none)∧H s.heap.objs.size=none:=by
 have hfr:=I.hok.fresh (Nat.le_refl s.heap.objs.size)
 have hne:∀b∈ch,b≠s.heap.objs.size:=fun b hb z=>hch (by rw[←z];exact hb)
 have I1:Inv X pins σ (upd H s.heap.objs.size (.tup ys)) { s with heap:=s.heap.push { cls:=.type "tuple",data:=.seq its.toArray},toks:=s.toks} :=
  I.laid (o:=.tup ys) (fun b u q=>Heap.get?_push_of_some _ q) (Nat.le_refl _) ⟨hz,its,rv,_,Heap.get?_push_size _ rfl,rfl,_,rfl⟩
 have hup:∀b∈ch,(upd H s.heap.objs.size (.tup ys)) b=none:=fun b hb=>by rw[aD (hne b hb)];exact (hf b hb).1
 refine ⟨?_,hup,hfr⟩
 refine g9 (t':=t') I1 (ch:=ch) (fun b hb=>⟨hup b hb,(hf b hb).2⟩) fun b o hb e=>?_
 by_cases z:b=s.heap.objs.size
 ·subst z
  have e':(s.heap.push { cls:=.type "tuple",data:=.seq its.toArray}).get? s.heap.objs.size=some { cls:=.type "tuple",data:=.seq its.toArray}:=Heap.get?_push_size _ rfl
  rw[show ({ s with heap:=s.heap.push { cls:=.type "tuple",data:=.seq its.toArray},toks:=s.toks}:Shared).heap=s.heap.push { cls:=.type "tuple",data:=.seq its.toArray} from rfl,e'] at e
  cases e
  exact ht
 ·have e':(s.heap.push { cls:=.type "tuple",data:=.seq its.toArray}).get? b=some o:=e
  rw[Heap.get?_push_ne _ _ _ z] at e'
  exact k b o hb e'
end
def Ite (K:PySem.W.Frag) (tp:Bool) (a:Addr):It :=
 ⟨fun i H=>∃ys y,SqB tp K H a ys∧ys[i]?=some y,fun i H x H'=>∃p y,H p=none∧x=.ref p∧H'=upd H p (.tup [.int i,y])∧∀ys,SqB tp K H a ys→ys[i]?=some y,fun i H=>∃ys,SqB tp K H a ys∧ys.length≤i⟩
theorem ml {P:Program} {w:World} {K:PySem.W.Frag} {elts:List Expr} {x1:Nat} {pos:Pos} (tp:Bool) (a e it:Addr) (hei:e≠it) (hae:a≠e) (hai:a≠it) :
  Turn P w K (.Tuple elts x1 pos) (Ite K tp a) [e,it] e (fun i h=>(∃old,IsEnum h e it i old)∧SqI tp h it a i) where
 mem:=by simp
 obj:=fun i h st b hb=>by
  obtain ⟨⟨old,he⟩,hi⟩:=st
  have:b=e∨b=it:=by simpa using hb
  rcases this with rfl|rfl
  ·exact ⟨_,he,fun v z=>nomatch z⟩
  ·obtain ⟨o,ho,hc,hd⟩:=hi
   exact ⟨o,ho,fun v z=>by rw[hd] at z;cases z⟩
 keep:=fun i h h' st k=>let ⟨⟨old,he⟩,hi⟩:=st;⟨⟨old,k e (by simp) _ he⟩,hi.at' fun o q=>k it (by simp) o q⟩
 item:=by
  intro X hP hw hK hc i pins s σ H E I hf st hg
  subst hP hw hK
  obtain ⟨⟨old,he⟩,hi⟩:=st
  obtain ⟨ys,y,hq,hy⟩:=hg
  obtain ⟨its,rv,so,hz⟩:=jz I hq
  obtain ⟨u,hu,ru⟩:=rv.get hy
  have hlt:i<its.toArray.size:=by
   have:=(List.getElem?_eq_some_iff.mp hu).1
   simpa using this
  have hin:(X.A.in1).handled=none:=by have:=I.ok.hd hc;simpa using this
  refine wpAny_pyNext_enum_itemD (draws hin tp it a hai its.toArray) he ⟨hi,so⟩ hlt hei (by simp[hei,Ne.symm hae]) fun x h1 tk hx ho1 st1 ht1 hz1 hk1=>⟨_,rfl,?_⟩
  have hxu:x=u:=by
   have:its.toArray[i]?=some u:=by simpa using hu
   rw[this] at hx;exact (Option.some.inj hx).symm
  subst hxu
  refine wpAny_letOwnedTupleGo_enum (s:={ s with heap:=h1,toks:=tk+1}) ho1 fun h2 he2 sb2=>?_
  replace sb2:Heap.SameBut e h1 h2:=sb2
  have hlte:e<s.heap.objs.size:=Heap.lt_size he
  have hlti:it<s.heap.objs.size:=hi.lt
  obtain ⟨I2,hup,hfr⟩:=inv_tup (t':=tk+1) (h':=h2) I (ch:=[e,it]) (ys:=[.int i,y]) (its:=[.int i tk,x]) hf (.cons ⟨tk,rfl⟩ (.cons ru .nil)) (by rw[sizeLine_eq];show 2≤_;decide)
   (by simp only[List.mem_cons,List.not_mem_nil,or_false,not_or];exact ⟨Nat.ne_of_gt hlte,Nat.ne_of_gt hlti⟩)
   ((sb2.2 _ (Nat.ne_of_gt hlte)).trans ht1)
   (fun b o hb q=>by
    have h1':b≠e:=fun z=>hb (by simp[z])
    have h2':b≠it:=fun z=>hb (by simp[z])
    exact (sb2.2 b h1').trans (hk1 b o h1' h2' q))
  refine ⟨.ref s.heap.objs.size,_,I2,rfl,⟨_,y,hfr,rfl,rfl,fun zs hzs=>by rw[inv_sqi I hzs hq];exact hy⟩,⟨⟨x,by simpa using he2⟩,?_⟩,hup⟩
  exact st1.1.at' fun o q=>(sb2.2 it (Ne.symm hei)).trans q
 done:=by
  intro X hP hw hK hc i pins s σ H E I hf st hg
  subst hP hw hK
  obtain ⟨⟨old,he⟩,hi⟩:=st
  obtain ⟨ys,hq,hy⟩:=hg
  obtain ⟨its,rv,so,hz⟩:=jz I hq
  have hin:(X.A.in1).handled=none:=by have:=I.ok.hd hc;simpa using this
  have hlen:=rv.length
  have hT:s.TypeIs (.ref e) "enumerate":=⟨_,he,rfl⟩
  unfold pyNext
  refine wpAny_bind (wpAny_attempt (wpAny_callSpecial?_slot (name:=Str.ofString "__next__") hT PySem.F.slot_enumerate_next (wpAny_call_entry PySem.F.slot_enumerate_next hT PySem.F.entry_enumerate_next ?_ (PySem.F.args_enumerate_next_1 _))))
  show wpAny _ _ (field (.ref e) 2 >>= _) _ _ _
  refine wpAny_bind (wpAny_field he rfl (x:=.ref it) rfl ?_)
  refine wpAny_bind (jq hin hi so (by simp;omega) fun h1 x he' hx'=>?_)
  obtain ⟨o,ho,hcx⟩:=hx'
  refine wpAny_bind (wpAny_isInstance (T:="StopIteration") (b:=true) ⟨o,ho,hcx⟩ isSubtype_stop ?_)
  refine wpAny_pure ⟨rfl,g9 (t':=s.toks) I hf fun b o hb q=>he' b o (fun z=>hb (by simp[z])) q⟩
 self:=fun A i s Q E st h=>let ⟨⟨old,he⟩,_⟩:=st;wpAny_pyIter_enum he h
noncomputable def de (v:PV) (h:MH):Option (Bool × List PV × List (Nat × List PV)):=match v with
 | .loc n=>(match h[n]? with
  | some (.lst xs)=>some (false,xs,[(n,xs)])
  | _=>none)
 | .frl xs=>some (false,xs,[])
 | .tup xs=>some (true,xs,[])
 | _=>none
theorem sq_rel {X:Cx} {ρ:List Addr} {H:Hp} {h:MH} {x:PV} {y:V} {tp:Bool} {xs:List PV} {gd:List (Nat × List PV)} (rh:RH X.K X.mg ρ H h) (r:RP X.K ρ H x y) (e:de x h=some (tp,xs,gd)) :
  ∃a,y=.ref a∧(∃ys,SqB tp X.K H a ys)∧∀ρ' H' h',Le ρ H ρ' H'→RH X.K X.mg ρ' H' h'→(∀p∈gd,h'[p.1]?=some (.lst p.2))→∃ys,SqB tp X.K H' a ys∧RPs X.K ρ' H' xs ys:=by
 cases r with
 | frl s r=>cases e;exact ⟨_,rfl,⟨_,s.sq⟩,fun ρ' H' h' l _ _=>⟨_,(l.sqf s).sq,r.le l⟩⟩
 | tup s r=>cases e;exact ⟨_,rfl,⟨_,s⟩,fun ρ' H' h' l _ _=>⟨_,l.sqt s,r.le l⟩⟩
 | @loc n a en =>
  obtain ⟨o,eo,ro⟩:=rh.obj en
  unfold de at e
  dsimp only at e
  rw[eo] at e
  cases o with
  | lst zs =>
   cases e
   obtain ⟨ys,ey,ry⟩:=ro
   refine ⟨a,rfl,⟨ys,SqL.of ey⟩,fun ρ' H' h' l rh' ok=>?_⟩
   obtain ⟨ys',ey',ry'⟩:=rh'.at' n a _ (l.get en) (ok (n,xs) (by simp))
   exact ⟨ys',SqL.of ey',ry'⟩
  | _=>cases e
 | _=>cases e
def d6 (xs:List PV):List PV:=xs.zipIdx.map fun p=>.tup [.int (p.2:Int),p.1]
theorem lU {xs:List PV} {i:Nat} {x:PV} (h:xs[i]?=some x):(d6 xs)[i]?=some (.tup [.int (i:Int),x]):=by
 unfold d6;rw[List.getElem?_map,List.getElem?_zipIdx,h];simp
theorem iS (xs:List PV):(d6 xs).length=xs.length:=by simp[d6]
noncomputable def mItE (m:Mx (List PV)):Mx MIt:=fun σ h=>(m σ h).bind fun vs h1=>match vs with
 | [x]=>(match de x h1 with
  | some (_,xs,gd)=>.ok ⟨d6 xs,gd⟩ h1
  | none=>.bad)
 | _=>.bad
section
variable {X:Cx} {N W G:List Str} {k:Nat}
theorem mi_enum (g:Good X N W G k) {elts:List Expr} {x1:Nat} {tp:Pos} {a:Expr} {m:Mx (List PV)} {p pos:Pos} {j:Nat} (hj:G[j]?=some "enumerate") (hm:X.mg "enumerate"=none) (ha:MA X [a] m)
  (hs:starEach [a] X.env=[(false,eval a X.env)]:=by rfl):MI X (.Tuple elts x1 tp) (.Call (.Name "enumerate" p) [a] [] pos) (mItE m):=by
 have d:=g.dbg _ (List.mem_append_right _ (aC hj))
 intro pins s σ H R I ⟨ρ,σp,h,rs,rh,q⟩
 refine wpAny_Call_Name_kw (fM I (g.gl _ (aC hj)) hm PyProof.Rows.Boot.«enumerate» ?_ d.2.2 d.1)
 refine PyProof.Rows.callWith_type1 (thn (ha pos pins s σ H (fun vs H1=>∃ρ1 h1 xs,Le ρ H ρ1 H1∧RH X.K X.mg ρ1 H1 h1∧RPs X.K ρ1 H1 xs vs∧Ful X (JRel X) σp ρ1 H1 ((match xs with
   | [x]=>(match de x h1 with | some (_,xs,gd)=>.ok ⟨d6 xs,gd⟩ h1 | none=>.bad)
   | _=>.bad:Out MIt)) R) I ⟨ρ,σp,h,rs,rh,Ful.bind q fun ρ1 H1 v v' h1 _ l1 rh1 rv q1=>⟨ρ1,h1,v,l1,rh1,rv,q1⟩⟩) fun us s1 ⟨vs,H1,I1,r1,ρ1,h1,xs,l1,rh1,rv,q1⟩=>?_) hs rfl
 cases rv with
 | nil=>exact q1.elim
 | @cons y y' ys ys' ry t1 =>
  cases t1 with
  | cons _ _=>exact q1.elim
  | nil =>
   dsimp only at q1
   cases hsq:de y h1 with
   | none=>rw[hsq] at q1;exact q1.elim
   | some z =>
    obtain ⟨b,zs,gd⟩:=z
    rw[hsq] at q1
    obtain ⟨ad,rfl,⟨ws,hws⟩,rel⟩:=sq_rel rh1 ry hsq
    obtain ⟨u,rfl,rx⟩:=fZ r1
    cases rx
    obtain ⟨its,rvv,so,hz⟩:=jz I1 hws
    refine mm so fun h' he hi hsz hk=>?_
    have hT:Shared.TypeIs { s1 with heap:=h'} (.ref (s1.heap.objs.size+1)) "enumerate":=⟨_,he,rfl⟩
    refine wpAny_pyIter_enum he ?_
    have I2:Inv X pins σ H1 { s1 with heap:=h',toks:=s1.toks}:=I1.kept hk
    obtain ⟨oa,hoa,hca,_⟩:=id so
    have hlt:ad<s1.heap.objs.size:=Heap.lt_size hoa
    have hfr0:=I1.hok.fresh (Nat.le_refl s1.heap.objs.size)
    have hfr1:=I1.hok.fresh (Nat.le_succ s1.heap.objs.size)
    refine ⟨s1.heap.objs.size+1,_,_,_,H1,rfl,I2,ml b ad _ s1.heap.objs.size (Nat.ne_of_gt (Nat.lt_succ_self _)) (Nat.ne_of_lt (Nat.lt_succ_of_lt hlt)) (Nat.ne_of_lt hlt),⟨⟨_,he⟩,hi⟩,fun c hc=>?_,?_⟩
    ·have:c=s1.heap.objs.size+1∨c=s1.heap.objs.size:=by simpa using hc
     rcases this with rfl|rfl
     ·have F:=Inv.fpOk I1 (H':=H1) (b:=s1.heap.objs.size+1) (Nat.le_succ _) hfr1
      exact F
     ·exact Inv.fpOk I1 (H':=H1) (Nat.le_refl _) hfr0
    ·refine q1 ρ1 H1 _ (Le.refl _ _) rh1 ?_
     intro ρ' H' h2 i l rh' ok
     obtain ⟨ws',hws',rws⟩:=rel ρ' H' h2 l rh' ok
     refine ⟨fun hi'=>?_,fun hi'=>⟨ws',hws',by rw[←rws.length];rw[iS] at hi';exact hi'⟩⟩
     rw[iS] at hi'
     have hx:zs[i]?=some (zs[i]'hi'):=List.getElem?_eq_getElem hi'
     obtain ⟨w',ew,rw'⟩:=rws.get hx
     refine ⟨⟨ws',w',hws',ew⟩,fun x' H3 ⟨pp,y2,hp,e1,e2,hall⟩=>?_⟩
     subst e1;subst e2
     have ey:y2=w':=by
      have:=hall ws' hws'
      rw[ew] at this;exact (Option.some.inj this).symm
     subst ey
     obtain ⟨rh3,l3⟩:=rh'.tup hp [.int i,y2]
     exact ⟨ρ',_,l3,rh3,lU hx,.tup (SqT.of bS) (.cons (.int _) (.cons (rw'.le l3) .nil))⟩
end
end MM
namespace MM
open PySem PySem.Spec PyProof.Rows L2 SetT SortT
section
variable {X:Cx} {N W G:List Str} {k:Nat}
end
end MM
namespace MM
open PySem PySem.Spec PyProof.Rows L2
noncomputable local instance (priority:=1) cdec26 (p:Prop):Decidable p:=Classical.propDecidable p
theorem la {it:MIt} {g:Mg} {b:Mst} (I:Nat→PSt→MH→Prop):∀(xs:List PV) (j:Nat) (σ:PSt) (h:MH),I j σ h→(∀j σ h,I j σ h→it.ok h) →
  (∀m σ h x,I (j+m) σ h→xs[m]?=some x→∃σ1 h1 σ' h',g x σ h=.nx σ1 h1∧b σ1 h1=.nx σ' h'∧I (j+m+1) σ' h') →
  ∃σ' h',mGo it g b xs σ h=.nx σ' h'∧I (j+xs.length) σ' h'
 | [],j,σ,h,hI,hok,_=>⟨σ,h,mGo_nil (hok _ _ _ hI),hI⟩
 | x::r,j,σ,h,hI,hok,st=>by
  obtain ⟨σ1,h1,σ2,h2,e1,e2,I1⟩:=st 0 σ h x hI rfl
  obtain ⟨σ3,h3,e3,I3⟩:=la I r (j+1) σ2 h2 I1 hok fun m σ' h' y q z=>by
   have:=st (m+1) σ' h' y (by rw[show j+(m+1)=j+1+m by omega];exact q) (by simpa using z)
   rw[show j+(m+1)+1=j+1+m+1 by omega] at this
   exact this
  refine ⟨σ3,h3,?_,by rw[List.length_cons,show j+(r.length+1)=j+1+r.length by omega];exact I3⟩
  rw[nI (hok _ _ _ hI) e1,e2];exact e3
end MM
namespace MM
open PySem PySem.Spec PyProof.Rows L2 SetT SortT
section
variable {h:MH} {i:Int} {xs:List PV} {n:Nat}
end
theorem itR1' {m:Mx (List PV)} {σ:PSt} {h h1:MH} {j:Int} (em:m σ h=.ok [.int j] h1) (z:-(2 ^ 62)≤j∧j<2 ^ 62):ca m σ h=.ok ⟨aW 0 j.toNat,[]⟩ h1:=by
 rw[nt,em]
 simp only[Out.bind_ok]
 rw[if_pos z]
theorem itR1 {m:Mx (List PV)} {σ:PSt} {h h1:MH} {n:Nat} (em:m σ h=.ok [.int (n:Int)] h1) (hn:n≤100000):ca m σ h=.ok ⟨aW 0 n,[]⟩ h1:=by
 have z1:-(2 ^ 62)≤(n:Int):=Int.le_trans (by decide) (Int.natCast_nonneg n)
 have z2:(n:Int)<2 ^ 62:=Int.lt_of_le_of_lt (Int.ofNat_le.mpr hn) (by decide)
 have:=itR1' em ⟨z1,z2⟩
 rwa [Int.toNat_natCast] at this
end MM
namespace MM
open PySem PySem.Spec PyProof.Rows L2
noncomputable local instance (priority:=1) cdec28 (p:Prop):Decidable p:=Classical.propDecidable p
section
variable {X:Cx} {N W G:List Str} {k:Nat}
end
end MM
namespace MM
open PySem PySem.Spec PyProof.Rows L2 PySem.W
noncomputable local instance (priority:=1) cdec29 (p:Prop):Decidable p:=Classical.propDecidable p
section
variable {X:Cx}
end
end MM
namespace MM
open PySem PySem.Spec PyProof.Rows L2
section
variable {X:Cx}
def fg:List PV→Option (List Str)
 | []=>some []
 | .str x::r=>(fg r).map (x::·)
 | _=>none
theorem mT {K:PySem.W.Frag} {ρ:List Addr} {H:Hp}:∀{xs:List PV} {ys:List V} {us:List Value} {ts:List Str},RPs K ρ H xs ys→Vals ys us→fg xs=some ts→∃l:List (Str × Tok),us=strValues l∧l.map (·.1)=ts:=by
 intro xs
 induction xs with
 | nil =>
  intro ys us ts r v e
  cases r
  cases v
  cases e
  exact ⟨[],rfl,rfl⟩
 | cons x xs ih =>
  intro ys us ts r v e
  cases r with
  | cons r1 r2 =>
   cases v with
   | cons v1 v2 =>
    cases r1 with
    | str z =>
     unfold fg at e
     rw[Option.map_eq_some_iff] at e
     obtain ⟨ts',e1,rfl⟩:=e
     obtain ⟨l,e2,e3⟩:=ih r2 v2 e1
     obtain ⟨t,rfl⟩:=v1
     exact ⟨(z,t)::l,by rw[e2];rfl,by rw[←e3];rfl⟩
    | _=>cases e
noncomputable def cf (z:Str) (xs:List PV) (h:MH):Out PV:=match xs with
 | [.loc n]=>(match h[n]? with
  | some (.lst ys)=>(match fg ys with
   | some ts=>if JoinOk z ts=true then .ok (.str (Txt.join z ts)) h else .bad
   | none=>.bad)
  | _=>.bad)
 | _=>.bad
noncomputable def gU (z:Str) (xs:List PV) (h:MH):Out PV:=match xs with
 | [.int i]=>if PadOk i=true then .ok (.str (Txt.zfill z i)) h else .bad
 | _=>.bad
def mSm (f:Str→List PV→MH→Out PV) (m:Mx PV) (ma:Mx (List PV)):Mx PV:=fun σ h=>(m σ h).bind fun o h1=>match o with
 | .str x=>(ma σ h1).bind fun vs h2=>(f x vs h2).ne
 | _=>.bad
def smJ (X:Cx) (f:Str→List PV→MH→Out PV):V→List V→Hp→VK→Prop:=fun x' xs' H Q=>∃ρ h z xs,x'=.str z∧RH X.K X.mg ρ H h∧RPs X.K ρ H xs xs'∧Ful0 X (RV' X) ρ H (f z xs h) Q
theorem cy:MtR X "str.join" (smJ X cf):=by
 intro pins s σ H x vs v us Q I rx rv ⟨ρ,h,z,ps,e,rh,rp,q⟩
 subst e
 obtain ⟨t,rfl⟩:=rx
 cases rp with
 | nil=>exact q.elim
 | cons r1 t1 =>
  cases t1 with
  | cons _ _=>cases r1 <;> exact q.elim
  | nil =>
   cases r1 with
   | @loc n a en =>
    dsimp only[cf] at q
    obtain ⟨o,eo,ro⟩:=rh.obj en
    rw[eo] at q
    cases o with
    | lst xs =>
     obtain ⟨ys,ey,ry⟩:=ro
     obtain ⟨u,rfl,ru⟩:=rv.one
     cases ru
     obtain ⟨_,its,n',r,hl,e⟩:=I.lstM ey
     dsimp only at q
     cases es:fg xs with
     | none=>rw[es] at q;exact q.elim
     | some ts =>
      rw[es] at q
      dsimp only at q
      split at q
      ·rename_i hj
       obtain ⟨l,rfl,el⟩:=mT ry r es
       exact SC.join ⟨_,e,rfl,_,rfl⟩ el hj fun t' k=>⟨.str _,H,I.tok k,⟨t',rfl⟩,q ρ H _ (Le.refl _ _) rh (.str _)⟩
      ·exact q.elim
    | _=>exact q.elim
   | _=>exact q.elim
theorem nu:MtR X "str.zfill" (smJ X gU):=by
 intro pins s σ H x vs v us Q I rx rv ⟨ρ,h,z,ps,e,rh,rp,q⟩
 subst e
 obtain ⟨t,rfl⟩:=rx
 cases rp with
 | nil=>exact q.elim
 | cons r1 t1 =>
  cases t1 with
  | cons _ _=>cases r1 <;> exact q.elim
  | nil =>
   cases r1 with
   | int i =>
    obtain ⟨u,rfl,ru⟩:=rv.one
    obtain ⟨t2,rfl⟩:=ru
    dsimp only[gU] at q
    split at q
    ·rename_i hp
     exact SC.zfill hp fun t' k=>⟨.str _,H,I.tok k,⟨t',rfl⟩,q ρ H _ (Le.refl _ _) rh (.str _)⟩
    ·exact q.elim
   | _=>exact q.elim
variable {o e:Expr} {es:List Expr} {name:Str} {apos cpos:Pos} {id:String} {f:Str→List PV→MH→Out PV} {m:Mx PV} {ma:Mx (List PV)}
theorem dG (slot:Slot "str" name id) (hty:typeOf (.builtin id)=pure (.type "method_descriptor")) (hm:MtR X id (smJ X f)) (ho:ME X o m) (ha:MA X (e::es) ma)
  (hbase:attributeBase o name X.env (eval o X.env)=eval o X.env:=by rfl)
  (hfew:((backTo cpos (starEach (e::es) X.env)).all (fun x=>!x.1) && (backToKw cpos (keywordEach [] X.env)).all (fun x=>x.1.isSome)
   && decide ((e::es).length+([]:List Keyword).length+(if ([]:List Keyword).isEmpty then 0 else 1)<30))=true:=by rfl)
  (hline:(apos.endLine == cpos.line)=true:=by rfl) (hs:starEach (e::es) X.env=(false,eval e X.env)::starEach es X.env:=by rfl) (hplain:(backTo cpos (starEach es X.env)).any (·.1)=false:=by rfl) :
  ME X (.Call (.Attribute o name apos) (e::es) [] cpos) (mSm f m ma) :=
 PE.imp (pe_bm PySem.F.plainAttrs_str slot hty hm ho ha hbase hfew hline hs hplain) fun σ H Q tm=>by
  obtain ⟨ρ,σp,h,rs,rh,q⟩:=tm
  refine ⟨ρ,σp,h,rs,rh,?_⟩
  unfold mSm at q
  refine Ful.bind q fun ρ1 H1 x x' h1 _ l1 rh1 rx q1=>?_
  cases rx with
  | str z =>
   refine ⟨rfl,ρ1,σp,h1,rs.le l1,rh1,?_⟩
   exact Ful.bind q1 fun ρ2 H2 vs vs' h2 _ l2 rh2 rvs q2=>⟨ρ2,h2,z,vs,rfl,rh2,rvs,q2.zero⟩
  | _=>exact q1.elim
@[simp] theorem mSm_ap {σ:PSt} {h:MH}:mSm f m ma σ h=(m σ h).bind fun o h1=>match o with
 | .str x=>(ma σ h1).bind fun vs h2=>(f x vs h2).ne
 | _=>.bad:=rfl
noncomputable def fFs (c:Str) (v:PV) (h:MH):Out PV:=match v with
 | .int i=>if i.natAbs.log2<1920∧(Str.empty++(toString i:Str)).length≤sizeLine∧(Str.empty++(toString i:Str)++c).length≤sizeLine then .ok (.str (Str.empty++(toString i:Str)++c)) h else .bad
 | _=>.bad
theorem me_fs {c:Str} {j:Nat} {p1 p2 pos:Pos} (he:ME X e m):ME X (.JoinedStr [.FormattedValue e (-1) none p1,.Constant (.str c) j p2] pos) (mUn (fFs c) m):=by
 intro pins s σ H Q I ⟨ρ,σp,h,rs,rh,q⟩
 refine wpAny_JoinedStr ?_
 show wpAny _ _ (eval (.FormattedValue e (-1) none p1) X.env) _ _ s
 refine wpAny_FormattedValue_plain ?_
 refine thn (he pins s σ H (fun x H1=>∃i,x=.int i∧(i.natAbs.log2<1920∧(Str.empty++(toString i:Str)).length≤sizeLine∧(Str.empty++(toString i:Str)++c).length≤sizeLine)∧Q (.str (Str.empty++(toString i:Str)++c)) H1) I ⟨ρ,σp,h,rs,rh,?_⟩) fun v s1 ⟨x,H1,I1,r1,i,e1,z,q1⟩=>?_
 ·refine Ful.bind q fun ρ1 H1 v v' h1 _ l1 rh1 rv q1=>?_
  have q1:=q1.zero
  cases rv with
  | int i =>
   dsimp only[fFs] at q1
   split at q1
   ·rename_i z
    exact ⟨i,rfl,z,q1 ρ1 H1 _ (Le.refl _ _) rh1 (.str _)⟩
   ·exact q1.elim
  | _=>exact q1.elim
 ·subst e1
  obtain ⟨t,rfl⟩:=r1
  refine wpAny_formatField_int z.1 ⟨_,_,rfl,z.2.1,?_⟩
  show wpAny _ _ (eval (.Constant (.str c) j p2) X.env) _ _ _
  exact Calls.Constant_str ⟨_,_,rfl,z.2.2,z.2.2,.str _,H1,((I1.tok _).tok _).tok _,⟨_,rfl⟩,q1⟩
end
end MM
namespace PU
open PySem MM
theorem ys {α:Type} {a b:α} (h:a=b):a=b:=h
inductive D where
 | non | bl (b:Bool) | int (i:Int) | str (x:Str) | tup (xs:List D) | lst (xs:List D) | dic | exc (c:Str) | pen
abbrev Pen:=Int × Int × Int
abbrev DEnv:=List (Option D)
def bn (h:MH) (p:Nat) (s:Pen):Prop:=h[p]?=some (.lst [.int s.1,.int s.2.1,.int s.2.2])
mutual
def Rp (p:Nat) (h:MH) (O:List Nat):D→PV→Prop
 | .non,v=>v=.non
 | .bl b,v=>v=.bl b
 | .int i,v=>v=.int i
 | .str x,v=>v=.str x
 | .tup ds,v=>∃xs,v=.tup xs∧Rps p h O ds xs
 | .lst ds,v=>∃n xs,v=.loc n∧n∉O∧h[n]?=some (.lst xs)∧Rps p h O ds xs
 | .dic,v=>∃n,v=.loc n∧n∉O∧h[n]?=some (.dic [])
 | .exc c,v=>∃n,v=.loc n∧n∉O∧h[n]?=some (.exc ⟨c,[]⟩)
 | .pen,v=>v=.loc p
def Rps (p:Nat) (h:MH) (O:List Nat):List D→List PV→Prop
 | [],vs=>vs=[]
 | d::ds,vs=>∃x r,vs=x::r∧Rp p h O d x∧Rps p h O ds r
end
theorem aG {h:MH} {n:Nat} {o:MO} (e:h[n]?=some o):n<h.length:=(List.getElem?_eq_some_iff.mp e).1
structure Mv (O:List Nat) (h:MH) (O':List Nat) (h':MH):Prop where
 keep:∀n:Nat,n<h.length→n∉O→h'[n]?=h[n]?
 new:∀o∈O',o∈O∨h.length≤o
theorem Mv.get {O O':List Nat} {h h':MH} (s:Mv O h O' h') {n:Nat} {o:MO} (e:h[n]?=some o) (no:n∉O):n∉O'∧h'[n]?=some o:=by
 have hl:=aG e
 refine ⟨fun z=>?_,(s.keep n hl no).trans e⟩
 rcases s.new n z with q|q
 ·exact no q
 ·omega
section
variable {p:Nat} {O O':List Nat} {h h':MH}
mutual
theorem Rp.mv (s:Mv O h O' h'):∀{d:D} {v:PV},Rp p h O d v→Rp p h' O' d v
 | .non,_,r=>r
 | .bl _,_,r=>r
 | .int _,_,r=>r
 | .str _,_,r=>r
 | .tup ds,_,⟨xs,e,r⟩=>⟨xs,e,Rps.mv s r⟩
 | .lst ds,_,⟨n,xs,e,no,g,r⟩=>⟨n,xs,e,(s.get g no).1,(s.get g no).2,Rps.mv s r⟩
 | .dic,_,⟨n,e,no,g⟩=>⟨n,e,(s.get g no).1,(s.get g no).2⟩
 | .exc c,_,⟨n,e,no,g⟩=>⟨n,e,(s.get g no).1,(s.get g no).2⟩
 | .pen,_,r=>r
theorem Rps.mv (s:Mv O h O' h'):∀{ds:List D} {vs:List PV},Rps p h O ds vs→Rps p h' O' ds vs
 | [],_,r=>r
 | _::_,_,⟨x,t,e,a,b⟩=>⟨x,t,e,Rp.mv s a,Rps.mv s b⟩
end
theorem Rps.length:∀{ds:List D} {vs:List PV},Rps p h O ds vs→vs.length=ds.length
 | [],_,r=>by rw[r];rfl
 | _::_,_,⟨x,t,e,a,b⟩=>by rw[e,List.length_cons,List.length_cons,Rps.length b]
theorem Rps.get:∀{ds:List D} {vs:List PV} {i:Nat} {d:D},Rps p h O ds vs→ds[i]?=some d→∃v,vs[i]?=some v∧Rp p h O d v
 | [],_,_,_,_,e=>by simp at e
 | _::_,_,0,_,⟨x,t,e,a,b⟩,g=>by simp at g;subst g e;exact ⟨x,rfl,a⟩
 | _::ds,_,i+1,d,⟨x,t,e,a,b⟩,g=>by
  obtain ⟨v,e1,r⟩:=Rps.get (i:=i) (d:=d) b (by simpa using g)
  exact ⟨v,by rw[e];simpa using e1,r⟩
theorem Rps.app:∀{ds es:List D} {vs ws:List PV},Rps p h O ds vs→Rps p h O es ws→Rps p h O (ds++es) (vs++ws)
 | [],_,_,_,r,s=>by rw[r];exact s
 | _::_,_,_,_,⟨x,t,e,a,b⟩,s=>⟨x,t++_,by rw[e];rfl,a,Rps.app b s⟩
end
def Vw (p:Nat) (h:MH) (L:Nat) (O:List Nat) (d:D) (v:PV):Prop:=Rp p h O d v∨∃n xs ds,d=.lst ds∧v=.loc n∧n∈O∧L≤n∧h[n]?=some (.lst xs)∧Rps p h O ds xs
def Vws (p:Nat) (h:MH) (L:Nat) (O:List Nat):List D→List PV→Prop
 | [],vs=>vs=[]
 | d::ds,vs=>∃x r,vs=x::r∧Vw p h L O d x∧Vws p h L O ds r
def Frs (p:Nat) (L:Nat) (O:List Nat) (h:MH) (d:D) (v:PV):Prop:=∀ds,d=.lst ds→∃n xs,v=.loc n∧L≤n∧h[n]?=some (.lst xs)∧Rps p h (n::O) ds xs
structure KB (p:Nat) (h h':MH):Prop where
 len:h.length≤h'.length
 keep:∀n:Nat,n<h.length→n≠p→h'[n]?=h[n]?
theorem KB.refl (p:Nat) (h:MH):KB p h h:=⟨Nat.le_refl _,fun _ _ _=>rfl⟩
theorem KB.trans {p:Nat} {h h1 h2:MH} (a:KB p h h1) (b:KB p h1 h2):KB p h h2 :=
 ⟨Nat.le_trans a.len b.len,fun n hn hp=>(b.keep n (Nat.lt_of_lt_of_le hn a.len) hp).trans (a.keep n hn hp)⟩
theorem KB.app (p:Nat) (h g:MH):KB p h (h++g):=⟨by simp,fun n hn _=>List.getElem?_append_left hn⟩
theorem KB.mv {p:Nat} {h h':MH} {O:List Nat} (k:KB p h h') (hp:p∈O):Mv O h O h' :=
 ⟨fun n hn no=>k.keep n hn fun z=>no (z▸hp),fun o ho=>.inl ho⟩
theorem bn.app {p:Nat} {h g:MH} {s:Pen} (e:bn h p s):bn (h++g) p s:=by
 unfold bn at *
 rw[List.getElem?_append_left (aG e)];exact e
theorem Vw.kb {p L:Nat} {h h':MH} {O:List Nat} {d:D} {v:PV} (k:KB p h h') (hp:p∈O) (hL:p<L) (w:Vw p h L O d v):Vw p h' L O d v:=by
 rcases w with r|⟨n,xs,ds,e1,e2,ho,hn,g,r⟩
 ·exact .inl (r.mv (k.mv hp))
 ·exact .inr ⟨n,xs,ds,e1,e2,ho,hn,(k.keep n (aG g) (by omega)).trans g,r.mv (k.mv hp)⟩
inductive PR (α:Type) where
 | ok (a:α) (s:Pen)
 | exc (c:Str) (s:Pen)
 | bad
def PR.bind {α β:Type} (r:PR α) (f:α→Pen→PR β):PR β:=match r with
 | .ok a s=>f a s
 | .exc c s=>.exc c s
 | .bad=>.bad
@[simp] theorem PR.bind_ok {α β:Type} (a:α) (s:Pen) (f:α→Pen→PR β):(PR.ok a s).bind f=f a s:=rfl
@[simp] theorem PR.bind_exc {α β:Type} (c:Str) (s:Pen) (f:α→Pen→PR β):(PR.exc c s).bind f=.exc c s:=rfl
@[simp] theorem PR.bind_bad {α β:Type} (f:α→Pen→PR β):(PR.bad:PR α).bind f=.bad:=rfl
def PR.of {α:Type} (o:Option α) (s:Pen):PR α:=match o with
 | some a=>.ok a s
 | none=>.bad
@[simp] theorem PR.of_some {α:Type} (a:α) (s:Pen):PR.of (some a) s=.ok a s:=rfl
@[simp] theorem PR.of_none {α:Type} (s:Pen):PR.of (none:Option α) s=.bad:=rfl
def Ok {α β:Type} (p:Nat) (h:MH) (o:Out β) (r:PR α) (R:MH→α→β→Prop):Prop:=match r with
 | .ok a s=>∃b h',o=.ok b h'∧KB p h h'∧bn h' p s∧R h' a b
 | .exc c s=>∃h',o=.exc ⟨c,[]⟩ h'∧KB p h h'∧bn h' p s
 | .bad=>True
theorem Ok.bind {α β γ δ:Type} {p:Nat} {h:MH} {o:Out β} {r:PR α} {R:MH→α→β→Prop} {f:β→MH→Out δ} {g:α→Pen→PR γ} {S:MH→γ→δ→Prop} (q:Ok p h o r R)
  (k:∀a b h1 s,KB p h h1→bn h1 p s→R h1 a b→Ok p h1 (f b h1) (g a s) S):Ok p h (o.bind f) (r.bind g) S:=by
 cases r with
 | ok a s =>
  obtain ⟨b,h1,rfl,kb,pn,rr⟩:=q
  have:=k a b h1 s kb pn rr
  rw[Out.bind_ok,PR.bind_ok]
  cases e:g a s with
  | ok c s2 =>
   rw[e] at this
   obtain ⟨d,h2,e2,kb2,pn2,r2⟩:=this
   exact ⟨d,h2,e2,kb.trans kb2,pn2,r2⟩
  | exc c s2 =>
   rw[e] at this
   obtain ⟨h2,e2,kb2,pn2⟩:=this
   exact ⟨h2,e2,kb.trans kb2,pn2⟩
  | bad=>trivial
 | exc c s =>
  obtain ⟨h1,rfl,kb,pn⟩:=q
  exact ⟨h1,rfl,kb,pn⟩
 | bad=>trivial
theorem Ok.imp {α β:Type} {p:Nat} {h:MH} {o:Out β} {r:PR α} {R S:MH→α→β→Prop} (q:Ok p h o r R) (k:∀h' a b,KB p h h'→R h' a b→S h' a b):Ok p h o r S:=by
 cases r with
 | ok a s=>obtain ⟨b,h1,e,kb,pn,rr⟩:=q;exact ⟨b,h1,e,kb,pn,k _ _ _ kb rr⟩
 | exc c s=>exact q
 | bad=>trivial
structure SR (p:Nat) (h:MH) (L:Nat) (O:List Nat) (ws:List Nat) (σ:PSt) (env:DEnv):Prop where
 len:σ.length=env.length
 fz:∀i d,env[i]?=some (some d)→i∉ws→∃v,σ[i]?=some (some v)∧Rp p h O d v
 ow:∀i d,env[i]?=some (some d)→i∈ws→∃n xs ds,d=.lst ds∧σ[i]?=some (some (.loc n))∧n∈O∧L≤n∧h[n]?=some (.lst xs)∧Rps p h O ds xs
structure Cx (p:Nat) (h:MH) (L:Nat) (B O:List Nat) (ws:List Nat) (σ:PSt) (env:DEnv) (s:Pen):Prop where
 bd:∀o∈O,o<h.length
 sub:∀o∈B,o∈O
 bb:∀o∈B,o<L
 pb:p∈B
 hL:L≤h.length
 pen:bn h p s
 sr:SR p h L O ws σ env
section
variable {p L:Nat} {h h':MH} {B O ws:List Nat} {σ:PSt} {env:DEnv} {s s':Pen}
theorem Cx.pO (c:Cx p h L B O ws σ env s):p∈O:=c.sub p c.pb
theorem Cx.pL (c:Cx p h L B O ws σ env s):p<L:=c.bb p c.pb
theorem SR.mv {O':List Nat} (m:Mv O h O' h') (hs:∀o∈O,o∈O') (ho:∀n:Nat,n<h.length→L≤n→n∈O→h'[n]?=h[n]?) (r:SR p h L O ws σ env):SR p h' L O' ws σ env :=
 ⟨r.len,fun i d e hi=>let ⟨v,e1,q⟩:=r.fz i d e hi;⟨v,e1,q.mv m⟩,fun i d e hi=>let ⟨n,xs,ds,e1,e2,a,b,g,q⟩:=r.ow i d e hi;⟨n,xs,ds,e1,e2,hs n a,b,(ho n (aG g) b a).trans g,q.mv m⟩⟩
theorem Cx.kb (c:Cx p h L B O ws σ env s) (k:KB p h h') (pn:bn h' p s'):Cx p h' L B O ws σ env s' :=
 ⟨fun o ho=>Nat.lt_of_lt_of_le (c.bd o ho) k.len,c.sub,c.bb,c.pb,Nat.le_trans c.hL k.len,pn,c.sr.mv (k.mv c.pO) (fun _ h=>h) fun n hn hl _=>k.keep n hn (by have:=c.pL;omega)⟩
theorem Vw.base (w:Vw p h L O d v) (sub:∀o∈B,o∈O) (bb:∀o∈B,o<L):Rp p h B d v:=by
 have m:Mv O h B h:=⟨fun _ _ _=>rfl,fun o ho=>.inl (sub o ho)⟩
 rcases w with r|⟨n,xs,ds,rfl,rfl,_,hn,g,r⟩
 ·exact r.mv m
 ·exact ⟨n,xs,rfl,fun z=>by have:=bb n z;omega,g,r.mv m⟩
theorem Vws.base (sub:∀o∈B,o∈O) (bb:∀o∈B,o<L):∀{ds:List D} {vs:List PV},Vws p h L O ds vs→Rps p h B ds vs
 | [],_,r=>r
 | _::_,_,⟨x,t,e,a,b⟩=>⟨x,t,e,a.base sub bb,Vws.base sub bb b⟩
theorem Frs.rp {d:D} {v:PV} {L':Nat} (f:Frs p L' O h d v) (bd:∀o∈O,o<L') {ds:List D} (e:d=.lst ds):Rp p h O d v:=by
 obtain ⟨n,xs,e1,hn,g,r⟩:=f ds e
 subst e
 exact ⟨n,xs,e1,fun z=>by have:=bd n z;omega,g,r.mv ⟨fun _ _ _=>rfl,fun o ho=>.inl (List.mem_cons_of_mem _ ho)⟩⟩
theorem Frs.le {d:D} {v:PV} {L1 L2:Nat} (f:Frs p L2 O h d v) (hl:L1≤L2):Frs p L1 O h d v:=fun ds e =>
 let ⟨n,xs,e1,hn,g,r⟩:=f ds e;⟨n,xs,e1,Nat.le_trans hl hn,g,r⟩
end
abbrev Bd (h:MH) (O:List Nat):Prop:=∀o∈O,o<h.length
def Gv (p:Nat) (h:MH) (O:List Nat) (fr:Bool) (o:Out PV) (d:D):Prop:=∃v g,o=.ok v (h++g)∧Rp p (h++g) O d v∧(fr=true→Frs p h.length O (h++g) d v)
structure Op1 where
 m:PV→MH→Out PV
 p:D→Option D
 fr:Bool
 ok:∀{q h L O a x d},Bd h O→Vw q h L O a x→p a=some d→Gv q h O fr (m x h) d
structure Op2 where
 m:PV→PV→MH→Out PV
 p:D→D→Option D
 fr:Bool
 ok:∀{q h L O a x b y d},Bd h O→Vw q h L O a x→Vw q h L O b y→p a b=some d→Gv q h O fr (m x y h) d
structure OpN where
 k:List PV→MH→Out PV
 p:List D→Option D
 fr:Bool
 ok:∀{q h L O as xs d},Bd h O→Vws q h L O as xs→p as=some d→Gv q h O fr (k xs h) d
structure Fn where
 m:List PV→MH→Out PV
 p:List D→Pen→PR D
 fr:Bool
 ok:∀{q h O vs ds s},Bd h O→q∈O→bn h q s→Rps q h O ds vs→Ok q h (m vs h) (p ds s) (fun h' d v=>Rp q h' O d v∧(fr=true→Frs q h.length O h' d v))
mutual
def flat:D→Bool
 | .lst _ | .dic | .exc _ | .pen=>false
 | .tup ds=>flats ds
 | _=>true
def flats:List D→Bool
 | []=>true
 | d::ds=>flat d && flats ds
end
section
variable {p:Nat} {h h':MH} {O O':List Nat}
mutual
theorem Rp.flat:∀{d:D} {v:PV},PU.flat d=true→Rp p h O d v→Rp p h' O' d v
 | .non,_,_,r=>r
 | .bl _,_,_,r=>r
 | .int _,_,_,r=>r
 | .str _,_,_,r=>r
 | .tup ds,_,f,⟨xs,e,r⟩=>⟨xs,e,Rps.flat (by simpa [PU.flat] using f) r⟩
 | .lst ds,_,f,_=>by simp[PU.flat] at f
 | .dic,_,f,_=>by simp[PU.flat] at f
 | .exc _,_,f,_=>by simp[PU.flat] at f
 | .pen,_,f,_=>by simp[PU.flat] at f
theorem Rps.flat:∀{ds:List D} {vs:List PV},PU.flats ds=true→Rps p h O ds vs→Rps p h' O' ds vs
 | [],_,_,r=>r
 | _::_,_,f,⟨x,t,e,a,b⟩=>⟨x,t,e,Rp.flat (by simp[PU.flats] at f;exact f.1) a,Rps.flat (by simp[PU.flats] at f;exact f.2) b⟩
end
end
structure Xe (ws:List Nat) where
 m:Mx PV
 p:DEnv→Pen→PR D
 fz:Bool
 fr:Bool
 ok:∀{q h L B O σ env s},Cx q h L B O ws σ env s→Ok q h (m σ h) (p env s) (fun h' d v=>Vw q h' L O d v∧(fz=true→Rp q h' O d v)∧(fr=true→Frs q h.length O h' d v))
structure Xs (ws:List Nat) where
 m:Mx (List PV)
 p:DEnv→Pen→PR (List D)
 fz:Bool
 ok:∀{q h L B O σ env s},Cx q h L B O ws σ env s→Ok q h (m σ h) (p env s) (fun h' ds vs=>Vws q h' L O ds vs∧(fz=true→Rps q h' O ds vs))
structure Xt (ws:List Nat) where
 m:Mx Bool
 p:DEnv→Pen→PR Bool
 ok:∀{q h L B O σ env s},Cx q h L B O ws σ env s→Ok q h (m σ h) (p env s) (fun _ a b=>a=b)
noncomputable section
variable {ws:List Nat}
theorem give {q L:Nat} {h h2:MH} {O:List Nat} {o:Out PV} {d:D} {s:Pen} {fr:Bool} (le:h.length≤h2.length) (pn:bn h2 q s) (g:Gv q h2 O fr o d) :
  Ok q h2 o (.ok d s) (fun h' d v=>Vw q h' L O d v∧(true=true→Rp q h' O d v)∧(fr=true→Frs q h.length O h' d v)):=by
 obtain ⟨v,g,e,r,f⟩:=g
 exact ⟨v,h2++g,e,KB.app _ _ _,pn.app,.inl r,fun _=>r,fun z=>(f z).le le⟩
def xVar (i:Nat):Xe ws where
 m:=mVar i
 p:=fun env s=>match env[i]? with
  | some (some d)=>.ok d s
  | _=>.bad
 fz:=!ws.contains i
 fr:=false
 ok {q h L B O σ env s} c:=by
  show Ok q h _ (match env[i]? with | some (some d)=>PR.ok d s | _=>.bad) _
  cases e:env[i]? with
  | none=>trivial
  | some o =>
   cases o with
   | none=>trivial
   | some d =>
    by_cases z:i∈ws
    ·obtain ⟨n,xs,ds,e1,e2,a,b,g,r⟩:=c.sr.ow i d e z
     exact ⟨.loc n,h,by simp[mVar,e2],KB.refl _ _,c.pen,.inr ⟨n,xs,ds,e1,rfl,a,b,g,r⟩,fun f=>by simp[z] at f,fun f=>by simp at f⟩
    ·obtain ⟨v,e1,r⟩:=c.sr.fz i d e z
     exact ⟨v,h,by simp[mVar,e1],KB.refl _ _,c.pen,.inl r,fun _=>r,fun f=>by simp at f⟩
inductive Cn where
 | non | bl (b:Bool) | int (i:Int) | str (x:Str)
def Cn.v:Cn→PV
 | .non=>.non
 | .bl b=>.bl b
 | .int i=>.int i
 | .str x=>.str x
def Cn.d:Cn→D
 | .non=>.non
 | .bl b=>.bl b
 | .int i=>.int i
 | .str x=>.str x
theorem Cn.rp (c:Cn) {q:Nat} {h:MH} {O:List Nat}:Rp q h O c.d c.v:=by cases c <;> rfl
def xC (k:Cn):Xe ws where
 m:=mC k.v
 p:=fun _ s=>.ok k.d s
 fz:=true
 fr:=true
 ok {q h L B O σ env s} c:=⟨k.v,h,rfl,KB.refl _ _,c.pen,.inl k.rp,fun _=>k.rp,fun _ ds e=>by cases k <;> cases e⟩
def xBin (o:Op2) (a b:Xe ws):Xe ws where
 m:=mBin o.m a.m b.m
 p:=fun env s=>(a.p env s).bind fun x s1=>(b.p env s1).bind fun y s2=>.of (o.p x y) s2
 fz:=true
 fr:=o.fr
 ok {q h L B O σ env s} c:=by
  refine (a.ok c).bind fun x v h1 s1 k1 p1 ⟨w1,_,_⟩=>?_
  refine (b.ok (c.kb k1 p1)).bind fun y w h2 s2 k2 p2 ⟨w2,_,_⟩=>?_
  cases e:o.p x y with
  | none=>trivial
  | some d =>
   have c2:=(c.kb k1 p1).kb k2 p2
   obtain ⟨u,g,e1,r,f⟩:=o.ok c2.bd (w1.kb k2 c.pO c.pL) w2 e
   exact give (Nat.le_trans k1.len k2.len) p2 ⟨u,g,by rw[e1];rfl,r,f⟩
def xUn (o:Op1) (a:Xe ws):Xe ws where
 m:=mUn o.m a.m
 p:=fun env s=>(a.p env s).bind fun x s1=>.of (o.p x) s1
 fz:=true
 fr:=o.fr
 ok {q h L B O σ env s} c:=by
  refine (a.ok c).bind fun x v h1 s1 k1 p1 ⟨w1,_,_⟩=>?_
  cases e:o.p x with
  | none=>trivial
  | some d =>
   obtain ⟨u,g,e1,r,f⟩:=o.ok (c.kb k1 p1).bd w1 e
   exact give k1.len p1 ⟨u,g,by rw[e1];rfl,r,f⟩
def xNil:Xs ws where
 m:=mNil
 p:=fun _ s=>.ok [] s
 fz:=true
 ok {q h L B O σ env s} c:=⟨[],h,rfl,KB.refl _ _,c.pen,rfl,fun _=>rfl⟩
def ae (a:Xe ws) (r:Xs ws):Xs ws where
 m:=ac a.m r.m
 p:=fun env s=>(a.p env s).bind fun x s1=>(r.p env s1).bind fun y s2=>.ok (x::y) s2
 fz:=a.fz && r.fz
 ok {q h L B O σ env s} c:=by
  refine (a.ok c).bind fun x v h1 s1 k1 p1 ⟨w1,z1,_⟩=>?_
  refine (r.ok (c.kb k1 p1)).bind fun y w h2 s2 k2 p2 ⟨w2,z2⟩=>?_
  refine ⟨v::w,h2,rfl,KB.refl _ _,p2,⟨v,w,rfl,w1.kb k2 c.pO c.pL,w2⟩,fun f=>?_⟩
  rw[Bool.and_eq_true] at f
  exact ⟨v,w,rfl,(z1 f.1).mv (k2.mv c.pO),z2 f.2⟩
def xCb (o:OpN) (a:Xs ws):Xe ws where
 m:=fun σ h=>(a.m σ h).bind o.k
 p:=fun env s=>(a.p env s).bind fun x s1=>.of (o.p x) s1
 fz:=true
 fr:=o.fr
 ok {q h L B O σ env s} c:=by
  refine (a.ok c).bind fun x v h1 s1 k1 p1 ⟨w1,_⟩=>?_
  cases e:o.p x with
  | none=>trivial
  | some d=>exact give k1.len p1 (o.ok (c.kb k1 p1).bd w1 e)
def am (f:Fn) (a:Xs ws) (hz:a.fz=true:=by exact ys rfl):Xe ws where
 m:=aq f.m a.m
 p:=fun env s=>(a.p env s).bind f.p
 fz:=true
 fr:=f.fr
 ok {q h L B O σ env s} c:=by
  refine (a.ok c).bind fun x v h1 s1 k1 p1 ⟨_,z⟩=>?_
  have c1:=c.kb k1 p1
  refine (f.ok c1.bd c1.pO p1 (z hz)).imp fun h' d v kb ⟨r,fr⟩=>⟨.inl r,fun _=>r,fun z=>(fr z).le k1.len⟩
def lend (d:D):Bool:=match d with
 | .lst ds=>flats ds
 | d=>flat d
def lJ (f:Fn) (a:Xs ws) (hf:f.fr=true:=by exact ys rfl):Xe ws where
 m:=aq f.m a.m
 p:=fun env s=>((a.p env s).bind f.p).bind fun d s=>if lend d=true then .ok d s else .bad
 fz:=true
 fr:=true
 ok {q h L B O σ env s} c:=by
  have key:Ok q h ((a.m σ h).bind f.m) ((a.p env s).bind f.p) (fun h' d v=>Rp q h' B d v∧Frs q h.length B h' d v):=by
   refine (a.ok c).bind fun x v h1 s1 k1 p1 ⟨w,_⟩=>?_
   have c1:=c.kb k1 p1
   refine (f.ok (fun o ho=>Nat.lt_of_lt_of_le (c1.bb o ho) c1.hL) c1.pb p1 (w.base c1.sub c1.bb)).imp fun h' d v kb ⟨r,fr⟩=>⟨r,(fr hf).le k1.len⟩
  show Ok q h ((a.m σ h).bind f.m) _ _
  cases e:(a.p env s).bind f.p with
  | bad=>trivial
  | exc x s1=>rw[e] at key;exact key
  | ok d s1 =>
   rw[e] at key
   obtain ⟨v,h',e1,kb,pn,r,fr⟩:=key
   rw[PR.bind_ok]
   by_cases z:lend d=true
   ·rw[if_pos z]
    have f2:Frs q h.length O h' d v:=fun ds ed=>by
     obtain ⟨n,xs,a1,a2,a3,a4⟩:=fr ds ed
     subst ed
     exact ⟨n,xs,a1,a2,a3,Rps.flat z a4⟩
    have r2:Rp q h' O d v:=by
     cases d with
     | lst ds=>exact f2.rp c.bd rfl
     | non=>exact r
     | bl b=>exact r
     | int i=>exact r
     | str i=>exact r
     | tup i=>exact Rp.flat z r
     | dic=>cases z
     | exc _=>cases z
     | pen=>cases z
    exact ⟨v,h',e1,kb,pn,.inl r2,fun _=>r2,fun _=>f2⟩
   ·rw[if_neg z];trivial
theorem dQ:100000≤sizeLine:=by decide
theorem f9 {q:Nat} {h:MH} {O:List Nat} {ds:List D} {xs:List PV} (bd:Bd h O) (r:Rps q h O ds xs) (hl:ds.length≤100000):Gv q h O true (newL xs h) (.lst ds):=by
 have hx:=r.length
 have m:Mv O h O (h++[MO.lst xs]):=⟨fun n hn _=>List.getElem?_append_left hn,fun o ho=>.inl ho⟩
 have m2:Mv O h (h.length::O) (h++[MO.lst xs]):=⟨fun n hn _=>List.getElem?_append_left hn,fun o ho=>by
  rcases List.mem_cons.mp ho with z|z
  ·exact .inr (by omega)
  ·exact .inl z⟩
 have g:(h++[MO.lst xs])[h.length]?=some (.lst xs):=by simp
 refine ⟨.loc h.length,[.lst xs],?_,⟨_,_,rfl,fun z=>by have:=bd _ z;omega,g,r.mv m⟩,fun _ ds' e=>?_⟩
 ·unfold newL;rw[if_pos];have:=dQ;omega
 ·cases e;exact ⟨_,_,rfl,Nat.le_refl _,g,r.mv m2⟩
theorem kX {q:Nat} {h:MH} {O:List Nat} {ds:List D} {xs:List PV} (r:Rps q h O ds xs) (hl:ds.length≤100000):Gv q h O true (newT xs h) (.tup ds):=by
 have hx:=r.length
 refine ⟨.tup xs,[],?_,?_,fun _ ds' e=>by cases e⟩
 ·unfold newT;rw[if_pos (by have:=dQ;omega)];simp
 ·simpa using ⟨xs,rfl,r⟩
def xLst (a:Xs ws) (hz:a.fz=true:=by exact ys rfl):Xe ws where
 m:=mLst a.m
 p:=fun env s=>(a.p env s).bind fun x s1=>if x.length≤100000 then .ok (.lst x) s1 else .bad
 fz:=true
 fr:=true
 ok {q h L B O σ env s} c:=by
  refine (a.ok c).bind fun x v h1 s1 k1 p1 ⟨_,z⟩=>?_
  by_cases hl:x.length≤100000
  ·rw[if_pos hl];exact give k1.len p1 (f9 (c.kb k1 p1).bd (z hz) hl)
  ·rw[if_neg hl];trivial
def xTup (a:Xs ws) (hz:a.fz=true:=by exact ys rfl):Xe ws where
 m:=mTup a.m
 p:=fun env s=>(a.p env s).bind fun x s1=>if x.length≤100000 then .ok (.tup x) s1 else .bad
 fz:=true
 fr:=true
 ok {q h L B O σ env s} c:=by
  refine (a.ok c).bind fun x v h1 s1 k1 p1 ⟨_,z⟩=>?_
  by_cases hl:x.length≤100000
  ·rw[if_pos hl];exact give k1.len p1 (kX (z hz) hl)
  ·rw[if_neg hl];trivial
theorem Vw.bl {q:Nat} {h:MH} {L:Nat} {O:List Nat} {b:Bool} {v:PV} (w:Vw q h L O (.bl b) v):v=.bl b:=by
 rcases w with r|⟨n,xs,ds,e,_⟩
 ·exact r
 ·cases e
def PR.bl (r:PR D):PR Bool:=r.bind fun d s=>match d with
 | .bl b=>.ok b s
 | _=>.bad
@[simp] theorem PR.bl_ok {b:Bool} {s:Pen}:(PR.ok (D.bl b) s).bl=.ok b s:=rfl
def xB (a:Xe ws):Xt ws where
 m:=mB a.m
 p:=fun env s=>(a.p env s).bl
 ok {q h L B O σ env s} c:=by
  refine (a.ok c).bind fun x v h1 s1 k1 p1 ⟨w,_,_⟩=>?_
  cases x with
  | bl b=>rw[w.bl];exact ⟨b,h1,rfl,KB.refl _ _,p1,rfl⟩
  | _=>trivial
def xNot (a:Xt ws):Xt ws where
 m:=mNot a.m
 p:=fun env s=>(a.p env s).bind fun b s=>.ok (!b) s
 ok {q h L B O σ env s} c:=(a.ok c).bind fun x v h1 s1 k1 p1 e=>⟨!v,h1,rfl,KB.refl _ _,p1,by rw[e]⟩
def xOr (a b:Xt ws):Xt ws where
 m:=mOr a.m b.m
 p:=fun env s=>(a.p env s).bind fun x s=>if x=true then .ok true s else b.p env s
 ok {q h L B O σ env s} c:=(a.ok c).bind fun x v h1 s1 k1 p1 e=>by
  subst e
  cases x with
  | false=>simpa using b.ok (c.kb k1 p1)
  | true=>exact ⟨true,h1,rfl,KB.refl _ _,p1,rfl⟩
def xTrue:Xt ws where
 m:=mTrue
 p:=fun _ s=>.ok true s
 ok {q h L B O σ env s} c:=⟨true,h,rfl,KB.refl _ _,c.pen,rfl⟩
theorem Ok.after {α β:Type} {p:Nat} {h h1:MH} {o:Out β} {r:PR α} {R:MH→α→β→Prop} (k:KB p h h1) (q:Ok p h1 o r R):Ok p h o r R:=by
 cases r with
 | bad=>trivial
 | exc c2 s2=>obtain ⟨h2,a1,a2,a3⟩:=q;exact ⟨h2,a1,k.trans a2,a3⟩
 | ok d2 s2=>obtain ⟨v2,h2,a1,a2,a3⟩:=q;exact ⟨v2,h2,a1,k.trans a2,a3⟩
theorem giveB {q L l:Nat} {h:MH} {O:List Nat} {b:Bool} {s:Pen} (pn:bn h q s):Ok q h (.ok (.bl b) h) (.ok (.bl b) s) (fun h' d v=>Vw q h' L O d v∧(true=true→Rp q h' O d v)∧(true=true→Frs q l O h' d v)) :=
 ⟨.bl b,h,rfl,KB.refl _ _,pn,.inl rfl,fun _=>rfl,fun _ ds e=>by cases e⟩
theorem blOnly {q L l:Nat} {h:MH} {O:List Nat} {o:Out PV} {r:PR D} {fz fr:Bool} {l':Nat} (k:Ok q h o r (fun h' d v=>Vw q h' L O d v∧(fz=true→Rp q h' O d v)∧(fr=true→Frs q l' O h' d v))) :
  Ok q h o (r.bl.bind fun b s=>.ok (.bl b) s) (fun h' d v=>Vw q h' L O d v∧(true=true→Rp q h' O d v)∧(true=true→Frs q l O h' d v)):=by
 cases r with
 | bad=>trivial
 | exc c s=>exact k
 | ok d s =>
  obtain ⟨v,h',e,kb,pn,w,_,_⟩:=k
  cases d with
  | bl b=>exact ⟨v,h',e,kb,pn,w,fun _=>by rw[w.bl];rfl,fun _ ds e=>by cases e⟩
  | _=>trivial
def lx (a b:Xe ws):Xe ws where
 m:=gN a.m b.m
 p:=fun env s=>(a.p env s).bl.bind fun x s=>if x=true then (b.p env s).bl.bind fun y s=>.ok (.bl y) s else .ok (.bl false) s
 fz:=true
 fr:=true
 ok {q h L B O σ env s} c:=by
  have k:=a.ok c
  show Ok q h ((a.m σ h).bind _) _ _
  cases e:a.p env s with
  | bad=>trivial
  | exc x s1 =>
   rw[e] at k
   obtain ⟨h1,e1,k1,p1⟩:=k
   rw[e1];exact ⟨h1,rfl,k1,p1⟩
  | ok d s1 =>
   rw[e] at k
   obtain ⟨v,h1,e1,k1,p1,w,_,_⟩:=k
   cases d with
   | bl x =>
    rw[w.bl] at e1
    rw[e1]
    cases x with
    | true =>
     exact Ok.after k1 (blOnly (l:=h.length) (b.ok (c.kb k1 p1)))
    | false =>
     obtain ⟨v2,h2,a1,a2,a3⟩:=giveB (L:=L) (l:=h.length) (O:=O) (b:=false) p1
     exact ⟨v2,h2,a1,k1.trans a2,a3⟩
   | _=>trivial
def xNotV (a:Xe ws):Xe ws where
 m:=jh a.m
 p:=fun env s=>(a.p env s).bl.bind fun x s=>.ok (.bl (!x)) s
 fz:=true
 fr:=true
 ok {q h L B O σ env s} c:=by
  have k:=a.ok c
  show Ok q h ((a.m σ h).bind _) _ _
  cases e:a.p env s with
  | bad=>trivial
  | exc x s1 =>
   rw[e] at k
   obtain ⟨h1,e1,k1,p1⟩:=k
   rw[e1];exact ⟨h1,rfl,k1,p1⟩
  | ok d s1 =>
   rw[e] at k
   obtain ⟨v,h1,e1,k1,p1,w,_,_⟩:=k
   cases d with
   | bl x =>
    rw[w.bl] at e1
    rw[e1]
    obtain ⟨v2,h2,a1,a2,a3⟩:=giveB (L:=L) (l:=h.length) (O:=O) (b:=!x) p1
    exact ⟨v2,h2,a1,k1.trans a2,a3⟩
   | _=>trivial
end
structure Xi (ws:List Nat) where
 m:Mx MIt
 p:DEnv→Pen→PR (List D)
 fz:Bool
 ok:∀{q h L B O σ env s},Cx q h L B O ws σ env s→Ok q h (m σ h) (p env s) (fun h' ds it=>Rps q h' O ds it.xs∧(∀g∈it.gd,h'[g.1]?=some (.lst g.2)∧g.1≠q)∧(fz=true→∀g∈it.gd,g.1∉O))
structure OpI where
 k:List PV→MH→Out MIt
 p:List D→Option (List D)
 ok:∀{q h L O as xs ds},q<L→q∈O→Bd h O→Vws q h L O as xs→p as=some ds→∃it,k xs h=.ok it h∧Rps q h O ds it.xs∧(∀g∈it.gd,h[g.1]?=some (.lst g.2)∧g.1≠q)∧(Rps q h O as xs→∀g∈it.gd,g.1∉O)
def D.items:D→Option (List D)
 | .lst ds=>some ds
 | .tup ds=>some ds
 | _=>none
@[simp] theorem items_lst {ds:List D}:(D.lst ds).items=some ds:=rfl
@[simp] theorem items_tup {ds:List D}:(D.tup ds).items=some ds:=rfl
noncomputable section
variable {ws:List Nat}
def xItA (o:OpI) (a:Xs ws):Xi ws where
 m:=fun σ h=>(a.m σ h).bind o.k
 p:=fun env s=>(a.p env s).bind fun x s1=>.of (o.p x) s1
 fz:=a.fz
 ok {q h L B O σ env s} c:=by
  refine (a.ok c).bind fun x v h1 s1 k1 p1 ⟨w,z⟩=>?_
  cases e:o.p x with
  | none=>trivial
  | some ds =>
   obtain ⟨it,e1,r,g1,g2⟩:=o.ok c.pL c.pO (c.kb k1 p1).bd w e
   exact ⟨it,h1,e1,KB.refl _ _,p1,r,g1,fun f=>g2 (z f)⟩
theorem Vw.seq {q:Nat} {h:MH} {L:Nat} {O:List Nat} {d:D} {v:PV} {ds:List D} (hq:q<L) (hO:q∈O) (w:Vw q h L O d v) (e:d.items=some ds):∃xs gd,itAny v h=.ok ⟨xs,gd⟩ h∧Rps q h O ds xs∧(∀g∈gd,h[g.1]?=some (.lst g.2)∧g.1≠q)∧(Rp q h O d v→∀g∈gd,g.1∉O):=by
 have one:∀n xs,h[n]?=some (MO.lst xs)→n≠q→(∀g∈[(n,xs)],h[g.1]?=some (MO.lst g.2)∧g.1≠q):=fun n xs g hn y hy=>by
  have:y=(n,xs):=by simpa using hy
  subst this;exact ⟨g,hn⟩
 cases d with
 | lst es =>
  have:es=ds:=by simpa [D.items] using e
  subst this
  rcases w with ⟨n,xs,e1,no,g,r⟩|⟨n,xs,es',e0,e1,_,hn,g,r⟩
  ·subst e1
   refine ⟨xs,[(n,xs)],by simp only[itAny,g],r,one n xs g (fun z=>no (z▸hO)),fun _ y hy=>?_⟩
   have:y=(n,xs):=by simpa using hy
   subst this;exact no
  ·cases e0;subst e1
   refine ⟨xs,[(n,xs)],by simp only[itAny,g],r,one n xs g (by omega),fun ⟨n',xs',e1,no,_⟩ y hy=>?_⟩
   have:y=(n,xs):=by simpa using hy
   subst this;cases e1;exact no
 | tup es =>
  have:es=ds:=by simpa [D.items] using e
  subst this
  rcases w with ⟨xs,e1,r⟩|⟨n,xs,es',e0,_⟩
  ·subst e1;exact ⟨xs,[],rfl,r,(fun _ hy=>nomatch hy),fun _ _ hy=>nomatch hy⟩
  ·cases e0
 | _=>simp[D.items] at e
def xItS (a:Xe ws):Xi ws where
 m:=mItS a.m
 p:=fun env s=>(a.p env s).bind fun x s1=>.of x.items s1
 fz:=a.fz
 ok {q h L B O σ env s} c:=by
  refine (a.ok c).bind fun x v h1 s1 k1 p1 ⟨w,z,_⟩=>?_
  cases e:x.items with
  | none=>trivial
  | some ds =>
   obtain ⟨xs,gd,e1,r,g1,g2⟩:=w.seq c.pL c.pO e
   exact ⟨⟨xs,gd⟩,h1,e1,KB.refl _ _,p1,r,g1,fun f=>g2 (z f)⟩
structure Xg (ws:List Nat) where
 m:Mg
 p:D→DEnv→Option DEnv
 ok:∀{q h L O σ env d v env'},SR q h L O ws σ env→Rp q h O d v→p d env=some env'→∃σ',m v σ h=.nx σ' h∧SR q h L O ws σ' env'∧∀i∈ws,σ'[i]?=σ[i]?∧env'[i]?=env[i]?
structure Xgs (ws:List Nat) where
 m:Mgs
 p:List D→DEnv→Option DEnv
 ok:∀{q h L O σ env ds vs env'},SR q h L O ws σ env→Rps q h O ds vs→p ds env=some env'→∃σ',m vs σ h=.nx σ' h∧SR q h L O ws σ' env'∧∀i∈ws,σ'[i]?=σ[i]?∧env'[i]?=env[i]?
theorem SR.set {q:Nat} {h:MH} {L:Nat} {O:List Nat} {σ:PSt} {env:DEnv} {d:D} {v:PV} {i:Nat} (r:SR q h L O ws σ env) (hi:i∉ws) (w:Rp q h O d v):SR q h L O ws (σ.set i (some v)) (env.set i (some d))∧∀j∈ws,(σ.set i (some v))[j]?=σ[j]?∧(env.set i (some d))[j]?=env[j]?:=by
 have ne:∀j∈ws,i≠j:=fun j hj z=>hi (z▸hj)
 refine ⟨⟨by simp[r.len],fun j e hj hw=>?_,fun j e hj hw=>?_⟩,fun j hj=>⟨List.getElem?_set_ne (ne j hj),List.getElem?_set_ne (ne j hj)⟩⟩
 ·by_cases z:i=j
  ·subst z
   have hl:i<env.length:=by
    have:=(List.getElem?_eq_some_iff.mp hj).1;simpa using this
   rw[List.getElem?_set_self hl] at hj
   cases hj
   exact ⟨v,List.getElem?_set_self (by rw[r.len];exact hl),w⟩
  ·rw[List.getElem?_set_ne z] at hj
   obtain ⟨u,e1,q1⟩:=r.fz j e hj hw
   exact ⟨u,by rw[List.getElem?_set_ne z];exact e1,q1⟩
 ·rw[List.getElem?_set_ne (ne j hw)] at hj
  obtain ⟨n,xs,ds,e1,e2,rest⟩:=r.ow j e hj hw
  exact ⟨n,xs,ds,e1,by rw[List.getElem?_set_ne (ne j hw)];exact e2,rest⟩
def xNm (i:Nat) (hi:ws.contains i=false:=by exact ys rfl):Xg ws where
 m:=gNm i
 p:=fun d env=>some (env.set i (some d))
 ok {q h L O σ env d v env'} r w e:=by
  cases e
  have hi':i∉ws:=fun z=>by simp[z] at hi
  obtain ⟨a,b⟩:=r.set hi' w
  exact ⟨_,rfl,a,b⟩
def xGl:Xgs ws where
 m:=gNl
 p:=fun ds env=>match ds with
  | []=>some env
  | _=>none
 ok {q h L O σ env ds vs env'} r w e:=by
  cases ds with
  | nil =>
   cases e
   have:vs=[]:=w
   subst this
   exact ⟨σ,rfl,r,fun _ _=>⟨rfl,rfl⟩⟩
  | cons _ _=>cases e
def xGc (a:Xg ws) (t:Xgs ws):Xgs ws where
 m:=gCn a.m t.m
 p:=fun ds env=>match ds with
  | d::ds=>(a.p d env).bind fun env1=>t.p ds env1
  | []=>none
 ok {q h L O σ env ds vs env'} r w e:=by
  cases ds with
  | nil=>cases e
  | cons d ds =>
   obtain ⟨x,y,rfl,r1,r2⟩:=w
   dsimp only at e
   cases e1:a.p d env with
   | none=>rw[e1] at e;cases e
   | some env1 =>
    rw[e1] at e
    obtain ⟨σ1,f1,s1,k1⟩:=a.ok r r1 e1
    obtain ⟨σ2,f2,s2,k2⟩:=t.ok s1 r2 e
    exact ⟨σ2,by show (a.m x σ h).then (t.m y)=_;rw[f1];exact f2,s2,fun i hi=>⟨(k2 i hi).1.trans (k1 i hi).1,(k2 i hi).2.trans (k1 i hi).2⟩⟩
def xGp (t:Xgs ws) (n:Nat):Xg ws where
 m:=gTp t.m n
 p:=fun d env=>match d with
  | .tup ds=>if ds.length=n then t.p ds env else none
  | _=>none
 ok {q h L O σ env d v env'} r w e:=by
  cases d with
  | tup ds =>
   obtain ⟨xs,rfl,w⟩:=w
   dsimp only at e
   by_cases z:ds.length=n
   ·rw[if_pos z] at e
    obtain ⟨σ',a,b⟩:=t.ok r w e
    exact ⟨σ',by show (if xs.length=n then t.m xs σ h else .bad)=_;rw[if_pos (by rw[w.length];exact z)];exact a,b⟩
   ·rw[if_neg z] at e;cases e
  | _=>cases e
def cws (nv:Nat) (fm ws:List Nat):List Nat:=((List.range fm.length).filter fun j=>ws.contains (fm.getD j 0)).map (nv+·)
def cenv (nv:Nat) (fm:List Nat) (env:DEnv):DEnv:=List.replicate nv none++fm.map fun i=>(env[i]?).getD none
def PR.ne {α:Type} (r:PR α):PR α:=match r with
 | .exc _ _=>.bad
 | r=>r
@[simp] theorem PR.ne_ok {α:Type} (a:α) (s:Pen):(PR.ok a s).ne=.ok a s:=rfl
def bN (g:D→DEnv→Option DEnv) (t:DEnv→Pen→PR Bool) (e:DEnv→Pen→PR D):List D→DEnv→Pen→PR (List D)
 | [],_,s=>.ok [] s
 | d::ds,env,s=>match g d env with
  | none=>.bad
  | some env1=>(t env1 s).bind fun b s1=>if b=true then (e env1 s1).bind fun x s2=>(bN g t e ds env1 s2).bind fun r s3=>.ok (x::r) s3 else bN g t e ds env1 s1
theorem cget {nv:Nat} {fm:List Nat} {α:Type} {env:List (Option α)} {i:Nat} {d:α} (e:(List.replicate nv none++fm.map fun i=>(env[i]?).getD none)[i]?=some (some d)):∃j k,i=nv+j∧fm[j]?=some k∧env[k]?=some (some d):=by
 by_cases z:i<nv
 ·rw[List.getElem?_append_left (by simpa using z)] at e
  simp[z] at e
 ·rw[List.getElem?_append_right (by simp;omega)] at e
  simp only[List.length_replicate,List.getElem?_map] at e
  cases ek:fm[i - nv]? with
  | none=>rw[ek] at e;cases e
  | some k =>
   rw[ek] at e
   simp only[Option.map_some,Option.some.injEq] at e
   refine ⟨i - nv,k,by omega,ek,?_⟩
   cases z2:env[k]? with
   | none=>rw[z2] at e;cases e
   | some o=>rw[z2] at e;simp at e;rw[e]
theorem cput {nv:Nat} {fm:List Nat} {α:Type} {σ:List (Option α)} {j k:Nat} {v:α} (e1:fm[j]?=some k) (e2:σ[k]?=some (some v)):(List.replicate nv none++fm.map fun i=>(σ[i]?).getD none)[nv+j]?=some (some v):=by
 rw[List.getElem?_append_right (by simp)]
 simp[e1,e2]
theorem kI {nv:Nat} {fm ws:List Nat} {j k:Nat} (e:fm[j]?=some k):nv+j∈cws nv fm ws↔k∈ws:=by
 have hj:=(List.getElem?_eq_some_iff.mp e).1
 have hk:fm.getD j 0=k:=by simp[List.getD,e]
 unfold cws
 rw[List.mem_map]
 constructor
 ·rintro ⟨a,ha,hb⟩
  have:a=j:=by omega
  subst this
  rw[List.mem_filter] at ha
  have:=ha.2
  rw[hk] at this
  simpa using this
 ·intro hw
  exact ⟨j,List.mem_filter.mpr ⟨List.mem_range.mpr hj,by rw[hk];simpa using hw⟩,rfl⟩
theorem SR.comp {q:Nat} {h:MH} {L:Nat} {O:List Nat} {σ:PSt} {env:DEnv} (nv:Nat) (fm:List Nat) (r:SR q h L O ws σ env):SR q h L O (cws nv fm ws) (cSt nv fm σ) (cenv nv fm env):=by
 refine ⟨by simp[cSt,cenv],fun i d e hi=>?_,fun i d e hi=>?_⟩
 ·obtain ⟨j,k,rfl,e1,e2⟩:=cget e
  obtain ⟨v,e3,w⟩:=r.fz k d e2 fun z=>hi ((kI e1).mpr z)
  exact ⟨v,cput e1 e3,w⟩
 ·obtain ⟨j,k,rfl,e1,e2⟩:=cget e
  obtain ⟨n,xs,ds,e0,e3,w⟩:=r.ow k d e2 ((kI e1).mp hi)
  exact ⟨n,xs,ds,e0,cput e1 e3,w⟩
theorem jL {ws':List Nat} (gt:Xg ws') (t:Xt ws') (e:Xe ws') (hz:e.fz=true) {q L:Nat} {h1:MH} {B O:List Nat} {it:MIt} (hq:q<h1.length) (gd:∀g∈it.gd,h1[g.1]?=some (.lst g.2)∧g.1≠q) :
  ∀(ds:List D) (xs:List PV) (env:DEnv) (σ:PSt) (h:MH) (accD:List D) (acc:List PV) (s:Pen) (r:List D) (s':Pen),(∀i∈ws',∀d,env[i]?=some (some d)→∀n,σ[i]?=some (some (.loc n))→n<h1.length)→KB q h1 h→Cx q h L B (h1.length::O) ws' σ env s→Rps q h (h1.length::O) ds xs→h[h1.length]?=some (.lst acc)→Rps q h (h1.length::O) accD acc→accD.length+ds.length≤100000 →
  bN gt.p t.p e.p ds env s=.ok r s'→∃h' zs,cGo it h1.length gt.m t.m e.m xs σ h=.ok () h'∧KB q h1 h'∧bn h' q s'∧h'[h1.length]?=some (.lst zs)∧Rps q h' (h1.length::O) (accD++r) zs
 | [],xs,env,σ,h,accD,acc,s,r,s',on,kb,c,rx,ga,ra,hl,ep=>by
  have:xs=[]:=rx
  subst this
  cases ep
  have ok:it.ok h:=fun g hg=>(kb.keep _ (aG (gd g hg).1) (gd g hg).2).trans (gd g hg).1
  exact ⟨h,acc,by rw[cGo,if_pos ok],kb,c.pen,ga,by simpa using ra⟩
 | d::ds,xs,env,σ,h,accD,acc,s,r,s',on,kb,c,rx,ga,ra,hl,ep=>by
  obtain ⟨x,xr,rfl,r1,r2⟩:=rx
  have ok:it.ok h:=fun g hg=>(kb.keep _ (aG (gd g hg).1) (gd g hg).2).trans (gd g hg).1
  rw[bN] at ep
  cases eg:gt.p d env with
  | none=>rw[eg] at ep;cases ep
  | some env1 =>
   rw[eg] at ep
   dsimp only at ep
   obtain ⟨σ1,f1,sr1,k1⟩:=gt.ok c.sr r1 eg
   have on1:∀i∈ws',∀d,env1[i]?=some (some d)→∀n,σ1[i]?=some (some (.loc n))→n<h1.length:=fun i hi d e n z=>on i hi d ((k1 i hi).2▸e) n ((k1 i hi).1▸z)
   have c1:Cx q h L B (h1.length::O) ws' σ1 env1 s:=⟨c.bd,c.sub,c.bb,c.pb,c.hL,c.pen,sr1⟩
   have kt:=t.ok c1
   cases et:t.p env1 s with
   | bad=>rw[et] at ep;cases ep
   | exc _ _=>rw[et] at ep;cases ep
   | ok b s1 =>
    rw[et] at ep kt
    obtain ⟨b',h2,f2,k2,p2,eb⟩:=kt
    subst eb
    have c2:=c1.kb k2 p2
    have mv2:Mv (h1.length::O) h (h1.length::O) h2:=k2.mv c.pO
    have hn:h1.length<h.length:=aG ga
    have ga2:h2[h1.length]?=some (.lst acc):=(k2.keep _ hn (by omega)).trans ga
    rw[PR.bind_ok] at ep
    cases b with
    | false =>
     rw[if_neg (by simp)] at ep
     obtain ⟨h',zs,a1,a2⟩:=jL gt t e hz hq gd ds xr env1 σ1 h2 accD acc s1 r s' on1 (kb.trans k2) c2 (r2.mv mv2) ga2 (ra.mv mv2) (by simp at hl;omega) ep
     refine ⟨h',zs,?_,a2⟩
     rw[cGo,if_pos ok,f1]
     simp only[f2,Out.ne_ok,Out.bind_ok,Bool.false_eq_true,if_false]
     exact a1
    | true =>
     rw[if_pos rfl] at ep
     have ke:=e.ok c2
     cases ee:e.p env1 s1 with
     | bad=>rw[ee] at ep;cases ep
     | exc _ _=>rw[ee] at ep;cases ep
     | ok y s2 =>
      rw[ee] at ep ke
      obtain ⟨v,h3,f3,k3,p3,_,rv,_⟩:=ke
      have rv:=rv hz
      have c3:=c2.kb k3 p3
      have mv3:Mv (h1.length::O) h2 (h1.length::O) h3:=k3.mv c.pO
      have ga3:h3[h1.length]?=some (.lst acc):=(k3.keep _ (aG ga2) (by omega)).trans ga2
      have mv4:Mv (h1.length::O) h3 (h1.length::O) (h3.set h1.length (.lst (acc++[v]))) :=
       ⟨fun n hn no=>List.getElem?_set_ne (fun z=>no (by simp[z])),fun o ho=>.inl ho⟩
      have ra3:Rps q h3 (h1.length::O) (accD++[y]) (acc++[v]):=((ra.mv mv2).mv mv3).app ⟨v,[],rfl,rv,rfl⟩
      rw[PR.bind_ok] at ep
      cases er:bN gt.p t.p e.p ds env1 s2 with
      | bad=>rw[er] at ep;cases ep
      | exc _ _=>rw[er] at ep;cases ep
      | ok r' s3 =>
       rw[er] at ep
       cases ep
       have k03:KB q h1 h3:=(kb.trans k2).trans k3
       have c4:Cx q (h3.set h1.length (.lst (acc++[v]))) L B (h1.length::O) ws' σ1 env1 s2:=by
        refine ⟨fun o ho=>by simpa using c3.bd o ho,c3.sub,c3.bb,c3.pb,by simpa using c3.hL,?_,?_⟩
        ·unfold bn;rw[List.getElem?_set_ne (by omega)];exact p3
        ·refine ⟨c3.sr.len,fun i d e hi=>let ⟨v,e1,q1⟩:=c3.sr.fz i d e hi;⟨v,e1,q1.mv mv4⟩,fun i d e hi=>?_⟩
         obtain ⟨n,ys,es,b1,b2,b3,b4,b5,b6⟩:=c3.sr.ow i d e hi
         have z:=on1 i hi d e n b2
         exact ⟨n,ys,es,b1,b2,b3,b4,by rw[List.getElem?_set_ne (by omega)];exact b5,b6.mv mv4⟩
       obtain ⟨h',zs,a1,a2,a3,a4,a5⟩:=jL gt t e hz hq gd ds xr env1 σ1 (h3.set h1.length (.lst (acc++[v]))) (accD++[y]) (acc++[v]) s2 r' _ on1 ⟨by simpa using k03.len,fun n hn hp=>by rw[List.getElem?_set_ne (by omega)];exact k03.keep n hn hp⟩ c4 (((r2.mv mv2).mv mv3).mv mv4) (List.getElem?_set_self (aG ga3)) (ra3.mv mv4) (by simp at hl ⊢;omega) er
       refine ⟨h',zs,?_,a2,a3,a4,by simpa using a5⟩
       rw[cGo,if_pos ok,f1]
       simp only[f2,Out.ne_ok,Out.bind_ok,if_true,f3,ga3]
       rw[if_pos (by have:=dQ;have:=ra.length;simp at hl;omega)]
       exact a1
def bE (nv:Nat) (fm:List Nat) (i:Xi ws) {ws':List Nat} (g:Xg ws') (t:Xt ws') (e:Xe ws') (hw:cws nv fm ws=ws':=by exact ys rfl) (hz:e.fz=true:=by exact ys rfl):Xe ws where
 m:=bZ nv fm i.m g.m t.m e.m
 p:=fun env s=>(i.p env s).bind fun ds s1=>if ds.length≤100000 then (match bN g.p t.p e.p ds (cenv nv fm env) s1 with
  | .ok r s2=>.ok (.lst r) s2
  | _=>.bad) else .bad
 fz:=true
 fr:=true
 ok {q h L B O σ env s} c:=by
  subst hw
  refine (i.ok c).bind fun ds it h1 s1 k1 p1 ⟨rx,gd,_⟩=>?_
  have c1:=c.kb k1 p1
  by_cases hl:ds.length≤100000
  ·rw[if_pos hl]
   cases er:bN g.p t.p e.p ds (cenv nv fm env) s1 with
   | bad=>trivial
   | exc _ _=>trivial
   | ok r s2 =>
    have mv:Mv O h1 (h1.length::O) (h1++[MO.lst []]):=⟨fun n hn _=>List.getElem?_append_left hn,fun o ho=>by
     rcases List.mem_cons.mp ho with z|z
     ·exact .inr (by omega)
     ·exact .inl z⟩
    have sr:=(c1.sr.comp nv fm).mv mv (fun o ho=>List.mem_cons_of_mem _ ho) fun n hn _ _=>List.getElem?_append_left hn
    have c2:Cx q (h1++[MO.lst []]) L B (h1.length::O) (cws nv fm ws) (cSt nv fm σ) (cenv nv fm env) s1:=by
     refine ⟨fun o ho=>?_,fun o ho=>List.mem_cons_of_mem _ (c.sub o ho),c.bb,c.pb,by have:=c1.hL;simp;omega,p1.app,sr⟩
     rcases List.mem_cons.mp ho with z|z
     ·subst z;simp
     ·have:=c1.bd o z;simp;omega
    have hq:q<h1.length:=aG p1
    obtain ⟨h',zs,a1,a2,a3,a4,a5⟩:=jL g t e hz (L:=L) (B:=B) (O:=O) hq gd ds it.xs (cenv nv fm env) (cSt nv fm σ) (h1++[MO.lst []]) [] [] s1 r s2 (fun i hi d ed n en=>by
     obtain ⟨n',_,_,_,b2,_,_,b5,_⟩:=(c1.sr.comp nv fm).ow i d ed hi
     rw[b2] at en
     cases en
     exact aG b5) (KB.app _ _ _) c2 (rx.mv mv) (by simp) rfl (by simpa using hl) er
    have f:Frs q h.length O h' (.lst r) (.loc h1.length):=fun ds e=>by
     cases e;exact ⟨_,zs,rfl,k1.len,a4,by simpa using a5⟩
    have rr:=f.rp c.bd rfl
    exact ⟨.loc h1.length,h',by show (cGo _ _ _ _ _ _ _ _).bind _=_;rw[a1];rfl,a2,a3,.inl rr,fun _=>rr,fun _=>f⟩
  ·rw[if_neg hl];trivial
end
end PU
namespace PU
open PySem MM
noncomputable local instance (priority:=1) cdecN4 (p:Prop):Decidable p:=Classical.propDecidable p
inductive PS where
 | nx (e:DEnv) (s:Pen)
 | rt (d:D) (s:Pen)
 | bk (e:DEnv) (s:Pen)
 | ct (e:DEnv) (s:Pen)
 | exc (c:Str) (e:DEnv) (s:Pen)
 | rse (c:Str) (e:DEnv) (s:Pen)
 | bad
structure Stp (q L:Nat) (h:MH) (O:List Nat) (h':MH) (O':List Nat):Prop where
 len:h.length≤h'.length
 mv:Mv O h O' h'
 sub:∀o∈O,o∈O'
 base:∀n:Nat,n<L→n≠q→h'[n]?=h[n]?
theorem Stp.refl (q L:Nat) (h:MH) (O:List Nat):Stp q L h O h O:=⟨Nat.le_refl _,⟨fun _ _ _=>rfl,fun _ h=>.inl h⟩,fun _ h=>h,fun _ _ _=>rfl⟩
theorem Stp.trans {q L:Nat} {h h1 h2:MH} {O O1 O2:List Nat} (a:Stp q L h O h1 O1) (b:Stp q L h1 O1 h2 O2):Stp q L h O h2 O2:=by
 refine ⟨Nat.le_trans a.len b.len,⟨fun n hn no=>?_,fun o ho=>?_⟩,fun o ho=>b.sub o (a.sub o ho),fun n hn hq=>(b.base n hn hq).trans (a.base n hn hq)⟩
 ·have n1:n∉O1:=fun z=>by
   rcases a.mv.new n z with q|q
   ·exact no q
   ·omega
  exact (b.mv.keep n (Nat.lt_of_lt_of_le hn a.len) n1).trans (a.mv.keep n hn no)
 ·rcases b.mv.new o ho with z|z
  ·exact a.mv.new o z
  ·exact .inr (Nat.le_trans a.len z)
def Dis (ws:List Nat) (σ:PSt) (env:DEnv):Prop:=∀i j,i∈ws→j∈ws→i≠j→∀d d' n,env[i]?=some (some d)→env[j]?=some (some d')→σ[i]?=some (some (.loc n))→σ[j]?≠some (some (.loc n))
def Nxt (q L:Nat) (h:MH) (B O ws:List Nat) (σ':PSt) (h':MH) (env:DEnv) (s:Pen):Prop:=∃O',Stp q L h O h' O'∧Cx q h' L B O' ws σ' env s∧Dis ws σ' env
def SOk (q L:Nat) (h:MH) (B O ws:List Nat) (fr:Bool) (o:SOut) (r:PS):Prop:=match r with
 | .nx env s=>∃σ' h',o=.nx σ' h'∧Nxt q L h B O ws σ' h' env s
 | .bk env s=>∃σ' h',o=.bk σ' h'∧Nxt q L h B O ws σ' h' env s
 | .ct env s=>∃σ' h',o=.ct σ' h'∧Nxt q L h B O ws σ' h' env s
 | .exc c env s=>∃σ' h',o=.exc ⟨c,[]⟩ σ' h'∧Nxt q L h B O ws σ' h' env s
 | .rse c env s=>∃σ' h',o=.rse ⟨c,[]⟩ σ' h'∧Nxt q L h B O ws σ' h' env s
 | .rt d s=>∃v h',o=.rt v h'∧h.length≤h'.length∧(∀n:Nat,n<L→n≠q→h'[n]?=h[n]?)∧bn h' q s∧Rp q h' B d v∧(fr=true→Frs q L B h' d v)
 | .bad=>True
structure Xd (ws:List Nat) where
 m:Mst
 p:DEnv→Pen→PS
 fr:Bool
 ok:∀{q h L B O σ env s},Cx q h L B O ws σ env s→Dis ws σ env→SOk q L h B O ws fr (m σ h) (p env s)
theorem Nxt.after {q L:Nat} {h h1:MH} {B O O1 ws:List Nat} {σ':PSt} {h':MH} {env:DEnv} {s:Pen} (a:Stp q L h O h1 O1) (n:Nxt q L h1 B O1 ws σ' h' env s):Nxt q L h B O ws σ' h' env s :=
 let ⟨O',b,c⟩:=n;⟨O',a.trans b,c⟩
theorem SOk.after {q L:Nat} {h h1:MH} {B O O1 ws:List Nat} {fr:Bool} {o:SOut} {r:PS} (a:Stp q L h O h1 O1) (k:SOk q L h1 B O1 ws fr o r):SOk q L h B O ws fr o r:=by
 cases r with
 | nx env s=>obtain ⟨σ',h',e,n⟩:=k;exact ⟨σ',h',e,n.after a⟩
 | bk env s=>obtain ⟨σ',h',e,n⟩:=k;exact ⟨σ',h',e,n.after a⟩
 | ct env s=>obtain ⟨σ',h',e,n⟩:=k;exact ⟨σ',h',e,n.after a⟩
 | exc c env s=>obtain ⟨σ',h',e,n⟩:=k;exact ⟨σ',h',e,n.after a⟩
 | rse c env s=>obtain ⟨σ',h',e,n⟩:=k;exact ⟨σ',h',e,n.after a⟩
 | rt d s=>obtain ⟨v,h',e,l,b,r⟩:=k;exact ⟨v,h',e,Nat.le_trans a.len l,fun n hn hq=>(b n hn hq).trans (a.base n hn hq),r⟩
 | bad=>trivial
theorem SOk.fr {q L:Nat} {h:MH} {B O ws:List Nat} {f f':Bool} {o:SOut} {r:PS} (hf:f'=true→f=true) (k:SOk q L h B O ws f o r):SOk q L h B O ws f' o r:=by
 cases r with
 | rt d s=>obtain ⟨v,h',e,l,b,p,r,z⟩:=k;exact ⟨v,h',e,l,b,p,r,fun y=>z (hf y)⟩
 | nx env s=>exact k
 | bk env s=>exact k
 | ct env s=>exact k
 | exc c env s=>exact k
 | rse c env s=>exact k
 | bad=>trivial
theorem KB.stp {q L:Nat} {h h':MH} {B O ws:List Nat} {σ:PSt} {env:DEnv} {s:Pen} (c:Cx q h L B O ws σ env s) (k:KB q h h'):Stp q L h O h' O :=
 ⟨k.len,k.mv c.pO,fun _ h=>h,fun n hn hq=>k.keep n (Nat.lt_of_lt_of_le hn c.hL) hq⟩
def PR.go {α:Type} (r:PR α) (env:DEnv) (k:α→DEnv→Pen→PS):PS:=match r with
 | .ok a s=>k a env s
 | .exc c s=>.exc c env s
 | .bad=>.bad
@[simp] theorem PR.go_ok {α:Type} (a:α) (s:Pen) (env:DEnv) (k:α→DEnv→Pen→PS):(PR.ok a s).go env k=k a env s:=rfl
@[simp] theorem PR.go_exc {α:Type} (c:Str) (s:Pen) (env:DEnv) (k:α→DEnv→Pen→PS):(PR.exc c s:PR α).go env k=.exc c env s:=rfl
@[simp] theorem PR.go_bad {α:Type} (env:DEnv) (k:α→DEnv→Pen→PS):(PR.bad:PR α).go env k=.bad:=rfl
theorem SOk.ex {α β:Type} {q L:Nat} {h:MH} {B O ws:List Nat} {fr:Bool} {σ:PSt} {env:DEnv} {s:Pen} {o:Out β} {r:PR α} {R:MH→α→β→Prop} {f:β→Mst} {g:α→DEnv→Pen→PS} (c:Cx q h L B O ws σ env s) (d:Dis ws σ env) (k:Ok q h o r R)
  (n:∀a b h1 s1,KB q h h1→Cx q h1 L B O ws σ env s1→R h1 a b→SOk q L h1 B O ws fr (f b σ h1) (g a env s1)) :
  SOk q L h B O ws fr (o.go σ f) (r.go env g):=by
 cases r with
 | ok a s1 =>
  obtain ⟨b,h1,rfl,kb,pn,rr⟩:=k
  exact (n a b h1 s1 kb (c.kb kb pn) rr).after (kb.stp c)
 | exc x s1 =>
  obtain ⟨h1,rfl,kb,pn⟩:=k
  exact ⟨σ,h1,rfl,O,kb.stp c,c.kb kb pn,d⟩
 | bad=>trivial
noncomputable section
variable {ws:List Nat}
def PS.then (r:PS) (k:DEnv→Pen→PS):PS:=match r with
 | .nx env s=>k env s
 | r=>r
@[simp] theorem aK {env:DEnv} {s:Pen} {k:DEnv→Pen→PS}:(PS.nx env s).then k=k env s:=rfl
@[simp] theorem then_rt {d:D} {s:Pen} {k:DEnv→Pen→PS}:(PS.rt d s).then k=.rt d s:=rfl
@[simp] theorem then_bk {env:DEnv} {s:Pen} {k:DEnv→Pen→PS}:(PS.bk env s).then k=.bk env s:=rfl
@[simp] theorem then_ct {env:DEnv} {s:Pen} {k:DEnv→Pen→PS}:(PS.ct env s).then k=.ct env s:=rfl
@[simp] theorem nK {c:Str} {env:DEnv} {s:Pen} {k:DEnv→Pen→PS}:(PS.exc c env s).then k=.exc c env s:=rfl
@[simp] theorem nQ {c:Str} {env:DEnv} {s:Pen} {k:DEnv→Pen→PS}:(PS.rse c env s).then k=.rse c env s:=rfl
@[simp] theorem oo {k:DEnv→Pen→PS}:PS.bad.then k=.bad:=rfl
def xSeq (a b:Xd ws):Xd ws where
 m:=mSeq a.m b.m
 p:=fun env s=>(a.p env s).then b.p
 fr:=a.fr && b.fr
 ok {q h L B O σ env s} c d:=by
  have k:=a.ok c d
  show SOk q L h B O ws _ ((a.m σ h).then b.m) _
  cases e:a.p env s with
  | nx env1 s1 =>
   rw[e] at k
   obtain ⟨σ1,h1,e1,O1,st,c1,d1⟩:=k
   rw[e1]
   exact ((b.ok c1 d1).fr (by simp)).after st
  | rt x s1=>rw[e] at k;obtain ⟨v,h',e1,r⟩:=k;rw[e1];exact SOk.fr (f:=a.fr) (by simp;exact fun h _=>h) (show SOk q L h B O ws a.fr (.rt v h') (.rt x s1) from ⟨v,h',rfl,r⟩)
  | bk env1 s1=>rw[e] at k;obtain ⟨σ',h',e1,r⟩:=k;rw[e1];exact ⟨σ',h',rfl,r⟩
  | ct env1 s1=>rw[e] at k;obtain ⟨σ',h',e1,r⟩:=k;rw[e1];exact ⟨σ',h',rfl,r⟩
  | exc x env1 s1=>rw[e] at k;obtain ⟨σ',h',e1,r⟩:=k;rw[e1];exact ⟨σ',h',rfl,r⟩
  | rse x env1 s1=>rw[e] at k;obtain ⟨σ',h',e1,r⟩:=k;rw[e1];exact ⟨σ',h',rfl,r⟩
  | bad=>trivial
def xSkip:Xd ws where
 m:=mSkip
 p:=.nx
 fr:=true
 ok {q h L B O σ env s} c d:=⟨σ,h,rfl,O,Stp.refl _ _ _ _,c,d⟩
theorem ret_go {m:Mx PV} {σ:PSt} {h:MH}:mRet m σ h=(m σ h).go σ fun v _ h'=>.rt v h':=by unfold mRet;cases m σ h <;> rfl
def xRet (e:Xe ws):Xd ws where
 m:=mRet e.m
 p:=fun env s=>(e.p env s).go env fun d _ s=>.rt d s
 fr:=e.fr
 ok {q h L B O σ env s} c d:=by
  rw[ret_go]
  refine SOk.ex (f:=fun v _ h'=>.rt v h') (g:=fun d _ s=>.rt d s) c d (e.ok c) fun x v h1 s1 kb c1 ⟨w,z,f⟩=>?_
  refine ⟨v,h1,rfl,Nat.le_refl _,fun _ _ _=>rfl,c1.pen,w.base c1.sub c1.bb,fun y=>?_⟩
  intro ds ed
  obtain ⟨n,xs,a1,a2,a3,a4⟩:=f y ds ed
  have:=c.hL
  exact ⟨n,xs,a1,by omega,a3,a4.mv ⟨fun _ _ _=>rfl,fun o ho=>.inl (by
   rcases List.mem_cons.mp ho with z|z
   ·subst z;simp
   ·exact List.mem_cons_of_mem _ (c.sub o z))⟩⟩
def xRetO (i:Nat) (hi:ws.contains i=true:=by exact ys rfl):Xd ws where
 m:=mRet (mVar i)
 p:=fun env s=>match env[i]? with
  | some (some d)=>.rt d s
  | _=>.bad
 fr:=true
 ok {q h L B O σ env s} c d:=by
  show SOk q L h B O ws _ _ (match env[i]? with | some (some d)=>PS.rt d s | _=>.bad)
  cases e:env[i]? with
  | none=>trivial
  | some o =>
   cases o with
   | none=>trivial
   | some x =>
    obtain ⟨n,xs,ds,e1,e2,a,b,g,r⟩:=c.sr.ow i x e (by simpa using hi)
    subst e1
    have m1:Mv O h (n::B) h:=⟨fun _ _ _=>rfl,fun o ho=>.inl (by
     rcases List.mem_cons.mp ho with z|z
     ·subst z;exact a
     ·exact c.sub o z)⟩
    have f:Frs q L B h (.lst ds) (.loc n):=fun ds' e=>by cases e;exact ⟨n,xs,rfl,b,g,r.mv m1⟩
    refine ⟨.loc n,h,by simp[mRet,mVar,e2],Nat.le_refl _,fun _ _ _=>rfl,c.pen,f.rp c.bb rfl,fun _=>f⟩
def xIf (t:Xt ws) (a b:Xd ws):Xd ws where
 m:=mIf t.m a.m b.m
 p:=fun env s=>(t.p env s).go env fun x env s=>if x=true then a.p env s else b.p env s
 fr:=a.fr && b.fr
 ok {q h L B O σ env s} c d:=SOk.ex (f:=fun x=>if x=true then a.m else b.m) (g:=fun x env s=>if x=true then a.p env s else b.p env s) c d (t.ok c) fun x v h1 s1 kb c1 e=>by
  subst e
  cases x with
  | true=>exact (a.ok c1 d).fr (by simp;exact fun h _=>h)
  | false=>exact (b.ok c1 d).fr (by simp)
theorem Dis.keep {σ σ':PSt} {env env':DEnv} (d:Dis ws σ env) (k:∀i∈ws,σ'[i]?=σ[i]?∧env'[i]?=env[i]?):Dis ws σ' env':=fun i j hi hj ne x y n a b e=>by
 rw[(k i hi).1] at e
 rw[(k i hi).2] at a
 rw[(k j hj).2] at b
 rw[(k j hj).1]
 exact d i j hi hj ne x y n a b e
def xSet (i:Nat) (e:Xe ws) (hi:ws.contains i=false:=by exact ys rfl) (hz:e.fz=true:=by exact ys rfl):Xd ws where
 m:=mSet i e.m
 p:=fun env s=>(e.p env s).go env fun d env s=>.nx (env.set i (some d)) s
 fr:=true
 ok {q h L B O σ env s} c d:=by
  refine SOk.ex (f:=fun v σ h=>.nx (σ.set i (some v)) h) (g:=fun d env s=>.nx (env.set i (some d)) s) c d (e.ok c) fun x v h1 s1 kb c1 ⟨_,z,_⟩=>?_
  obtain ⟨a,b⟩:=c1.sr.set (i:=i) (fun z=>by simp[z] at hi) (z hz)
  exact ⟨_,h1,rfl,O,Stp.refl _ _ _ _,⟨c1.bd,c1.sub,c1.bb,c1.pb,c1.hL,c1.pen,a⟩,d.keep b⟩
def jk (i:Nat) (e:Xe ws) (hi:ws.contains i=true:=by exact ys rfl) (hz:e.fr=true:=by exact ys rfl):Xd ws where
 m:=mSet i e.m
 p:=fun env s=>(e.p env s).go env fun d env s=>match d with
  | .lst ds=>.nx (env.set i (some (.lst ds))) s
  | _=>.bad
 fr:=true
 ok {q h L B O σ env s} c d:=by
  show SOk q L h B O ws _ _ _
  have k:=e.ok c
  show SOk q L h B O ws _ ((e.m σ h).go σ fun v σ h=>.nx (σ.set i (some v)) h) _
  cases ee:e.p env s with
  | bad=>trivial
  | exc x s1 =>
   rw[ee] at k
   obtain ⟨h1,e1,kb,pn⟩:=k
   rw[e1]
   exact ⟨σ,h1,rfl,O,kb.stp c,c.kb kb pn,d⟩
  | ok x s1 =>
   rw[ee] at k
   obtain ⟨v,h1,e1,kb,pn,_,_,f⟩:=k
   rw[e1]
   cases x with
   | lst ds =>
    obtain ⟨n,xs,rfl,hn,g,r⟩:=f hz ds rfl
    have c1:=c.kb kb pn
    have hi':i∈ws:=by simpa using hi
    have mv:Mv O h (n::O) h1:=⟨fun m hm no=>kb.keep m hm fun z=>no (z▸c.pO),fun o ho=>by
     rcases List.mem_cons.mp ho with z|z
     ·exact .inr (by omega)
     ·exact .inl z⟩
    have hnO:n∉O:=fun z=>by have:=c.bd n z;omega
    refine ⟨σ.set i (some (.loc n)),h1,rfl,n::O,⟨kb.len,mv,fun o ho=>List.mem_cons_of_mem _ ho,fun m hm hq=>kb.keep m (Nat.lt_of_lt_of_le hm c.hL) hq⟩,⟨fun o ho=>?_,fun o ho=>List.mem_cons_of_mem _ (c.sub o ho),c.bb,c.pb,c1.hL,pn,?_⟩,?_⟩
    ·rcases List.mem_cons.mp ho with z|z
     ·subst z;exact aG g
     ·exact c1.bd o z
    ·have sr:=c.sr.mv mv (fun o ho=>List.mem_cons_of_mem _ ho) fun m hm hl _=>kb.keep m hm (by have:=c.pL;omega)
     refine ⟨by simp[sr.len],fun j x ej hj=>?_,fun j x ej hj=>?_⟩
     ·have ne:i≠j:=fun z=>hj (z▸hi')
      rw[List.getElem?_set_ne ne] at ej
      rw[List.getElem?_set_ne ne]
      exact sr.fz j x ej hj
     ·by_cases z:i=j
      ·subst z
       have hl:i<env.length:=by have:=(List.getElem?_eq_some_iff.mp ej).1;simpa using this
       rw[List.getElem?_set_self hl] at ej
       cases ej
       exact ⟨n,xs,ds,rfl,List.getElem?_set_self (by rw[sr.len];exact hl),by simp,by have:=c.hL;omega,g,r⟩
      ·rw[List.getElem?_set_ne z] at ej
       rw[List.getElem?_set_ne z]
       exact sr.ow j x ej hj
    ·have old:∀j d,j∈ws→i≠j→(env.set i (some (.lst ds)))[j]?=some (some d)→(σ.set i (some (.loc n)))[j]?≠some (some (.loc n)):=fun j d hj ne ej z=>by
      rw[List.getElem?_set_ne ne] at ej z
      obtain ⟨n',_,_,_,b2,b3,_⟩:=c.sr.ow j d ej hj
      rw[z] at b2
      cases b2
      exact hnO b3
     intro a b ha hb ne x y m ea eb es
     by_cases z1:i=a
     ·subst z1
      have hl:i<σ.length:=by have:=(List.getElem?_eq_some_iff.mp es).1;simpa using this
      rw[List.getElem?_set_self hl] at es
      cases es
      exact old b y hb ne eb
     ·by_cases z2:i=b
      ·subst z2
       intro z
       have hl:i<σ.length:=by have:=(List.getElem?_eq_some_iff.mp z).1;simpa using this
       rw[List.getElem?_set_self hl] at z
       cases z
       exact old a x ha z1 ea es
      ·rw[List.getElem?_set_ne z1] at ea es
       rw[List.getElem?_set_ne z2] at eb ⊢
       exact d a b ha hb ne x y m ea eb es
   | _=>trivial
def kj (x:Str) (a:Xs ws):Xd ws where
 m:=eQ x a.m
 p:=fun env s=>(a.p env s).go env fun ds env s=>if ds.length≤100000 then .rse x env s else .bad
 fr:=true
 ok {q h L B O σ env s} c d:=by
  refine SOk.ex (f:=fun (vs:List PV) σ h=>if vs.length≤sizeLine then .rse ⟨x,[]⟩ σ h else .bad) (g:=fun (ds:List D) env s=>if ds.length≤100000 then .rse x env s else .bad) c d (a.ok c) fun ds vs h1 s1 kb c1 ⟨w,_⟩=>?_
  have hl:∀{ds:List D} {vs:List PV},Vws q h1 L O ds vs→vs.length=ds.length:=by
   intro ds
   induction ds with
   | nil=>intro vs w;rw[show vs=[] from w];rfl
   | cons d ds ih=>intro vs w;obtain ⟨x,r,e,_,b⟩:=w;rw[e,List.length_cons,List.length_cons,ih b]
  by_cases z:ds.length≤100000
  ·rw[if_pos z,if_pos (by have:=dQ;rw[hl w];omega)]
   exact ⟨σ,h1,rfl,O,Stp.refl _ _ _ _,c1,d⟩
  ·rw[if_neg z];trivial
end
end PU
namespace PU
open PySem MM
open L2 (ixN)
noncomputable local instance (priority:=1) cdecN5 (p:Prop):Decidable p:=Classical.propDecidable p
noncomputable section
variable {ws:List Nat}
def PS.turn (r:PS) (k:DEnv→Pen→PS):PS:=match r with
 | .nx e s=>k e s
 | .ct e s=>k e s
 | .bk e s=>.nx e s
 | r=>r
@[simp] theorem kD {e:DEnv} {s:Pen} {k:DEnv→Pen→PS}:(PS.nx e s).turn k=k e s:=rfl
@[simp] theorem turn_ct {e:DEnv} {s:Pen} {k:DEnv→Pen→PS}:(PS.ct e s).turn k=k e s:=rfl
@[simp] theorem turn_bk {e:DEnv} {s:Pen} {k:DEnv→Pen→PS}:(PS.bk e s).turn k=.nx e s:=rfl
@[simp] theorem turn_rt {d:D} {s:Pen} {k:DEnv→Pen→PS}:(PS.rt d s).turn k=.rt d s:=rfl
@[simp] theorem nH {c:Str} {e:DEnv} {s:Pen} {k:DEnv→Pen→PS}:(PS.exc c e s).turn k=.exc c e s:=rfl
@[simp] theorem ni {c:Str} {e:DEnv} {s:Pen} {k:DEnv→Pen→PS}:(PS.rse c e s).turn k=.rse c e s:=rfl
@[simp] theorem turn_bad {k:DEnv→Pen→PS}:PS.bad.turn k=.bad:=rfl
def pGo (g:D→DEnv→Option DEnv) (b:DEnv→Pen→PS):List D→DEnv→Pen→PS
 | [],env,s=>.nx env s
 | d::ds,env,s=>match g d env with
  | none=>.bad
  | some env1=>(b env1 s).turn (pGo g b ds)
theorem kd (g:Xg ws) (b:Xd ws) {q L:Nat} {B:List Nat} {it:MIt}:∀(ds:List D) (xs:List PV) (env:DEnv) (σ:PSt) (h:MH) (O:List Nat) (s:Pen),Cx q h L B O ws σ env s→Dis ws σ env→Rps q h O ds xs→(∀y∈it.gd,h[y.1]?=some (.lst y.2)∧y.1∉O) →
  SOk q L h B O ws b.fr (mGo it g.m b.m xs σ h) (pGo g.p b.p ds env s)
 | [],xs,env,σ,h,O,s,c,d,r,gd=>by
  have:xs=[]:=r
  subst this
  have ok:it.ok h:=fun y hy=>(gd y hy).1
  refine ⟨σ,h,by rw[mGo];dsimp only;rw[if_pos ok],O,Stp.refl _ _ _ _,c,d⟩
 | x::ds,xs,env,σ,h,O,s,c,d,r,gd=>by
  obtain ⟨v,xr,rfl,r1,r2⟩:=r
  have ok:it.ok h:=fun y hy=>(gd y hy).1
  rw[pGo]
  cases eg:g.p x env with
  | none=>trivial
  | some env1 =>
   obtain ⟨σ1,f1,sr,k⟩:=g.ok c.sr r1 eg
   have c1:Cx q h L B O ws σ1 env1 s:=⟨c.bd,c.sub,c.bb,c.pb,c.hL,c.pen,sr⟩
   have kb:=b.ok c1 (d.keep k)
   have em:mGo it g.m b.m (v::xr) σ h=(match b.m σ1 h with
    | .nx σ2 h2=>mGo it g.m b.m xr σ2 h2
    | .ct σ2 h2=>mGo it g.m b.m xr σ2 h2
    | .bk σ2 h2=>.nx σ2 h2
    | .rt v h2=>.rt v h2
    | .exc e σ2 h2=>.exc e σ2 h2
    | .rse e σ2 h2=>.rse e σ2 h2
    | .bad=>.bad):=by rw[mGo];dsimp only;(rw[if_pos ok,f1]) <;> rfl
   rw[em]
   have gd':∀{h2:MH} {O2:List Nat},Stp q L h O h2 O2→∀y∈it.gd,h2[y.1]?=some (.lst y.2)∧y.1∉O2:=fun st y hy=>by
    obtain ⟨a,b⟩:=st.mv.get (gd y hy).1 (gd y hy).2
    exact ⟨b,a⟩
   dsimp only
   cases eb:b.p env1 s with
   | bad=>trivial
   | nx e2 s2 =>
    rw[eb] at kb
    obtain ⟨σ2,h2,e1,O2,st,c2,d2⟩:=kb
    rw[e1]
    exact (kd g b ds xr e2 σ2 h2 O2 s2 c2 d2 (r2.mv st.mv) (gd' st)).after st
   | ct e2 s2 =>
    rw[eb] at kb
    obtain ⟨σ2,h2,e1,O2,st,c2,d2⟩:=kb
    rw[e1]
    exact (kd g b ds xr e2 σ2 h2 O2 s2 c2 d2 (r2.mv st.mv) (gd' st)).after st
   | bk e2 s2=>rw[eb] at kb;obtain ⟨σ2,h2,e1,r⟩:=kb;rw[e1];exact ⟨σ2,h2,rfl,r⟩
   | exc x e2 s2=>rw[eb] at kb;obtain ⟨σ2,h2,e1,r⟩:=kb;rw[e1];exact ⟨σ2,h2,rfl,r⟩
   | rse x e2 s2=>rw[eb] at kb;obtain ⟨σ2,h2,e1,r⟩:=kb;rw[e1];exact ⟨σ2,h2,rfl,r⟩
   | rt x s2=>rw[eb] at kb;obtain ⟨v,h2,e1,r⟩:=kb;rw[e1];exact ⟨v,h2,rfl,r⟩
def xFor (i:Xi ws) (g:Xg ws) (b:Xd ws) (hz:i.fz=true:=by exact ys rfl):Xd ws where
 m:=mFor i.m g.m b.m
 p:=fun env s=>(i.p env s).go env fun ds env s=>pGo g.p b.p ds env s
 fr:=b.fr
 ok {q h L B O σ env s} c d:=SOk.ex (f:=fun it=>mGo it g.m b.m it.xs) (g:=fun ds env s=>pGo g.p b.p ds env s) c d (i.ok c) fun ds it h1 s1 kb c1 r =>
  kd g b ds it.xs env σ h1 O s1 c1 d r.1 fun y hy=>⟨(r.2.1 y hy).1,r.2.2 hz y hy⟩
def pWhN (t:DEnv→Pen→PR Bool) (b:DEnv→Pen→PS):Nat→DEnv→Pen→PS
 | 0,_,_=>.bad
 | n+1,env,s=>(t env s).go env fun x env s=>if x=true then (b env s).turn (pWhN t b n) else .nx env s
theorem ik (t:Xt ws) (b:Xd ws) {q L:Nat} {B:List Nat}:∀(n:Nat) (env:DEnv) (σ:PSt) (h:MH) (O:List Nat) (s:Pen),Cx q h L B O ws σ env s→Dis ws σ env→SOk q L h B O ws b.fr (mWhN t.m b.m n σ h) (pWhN t.p b.p n env s)
 | 0,env,σ,h,O,s,c,d=>trivial
 | n+1,env,σ,h,O,s,c,d=>by
  refine SOk.ex (f:=fun x=>if x=true then (fun σ h=>match b.m σ h with
   | .nx σ2 h2=>mWhN t.m b.m n σ2 h2
   | .ct σ2 h2=>mWhN t.m b.m n σ2 h2
   | .bk σ2 h2=>.nx σ2 h2
   | .rt v h2=>.rt v h2
   | .exc e σ2 h2=>.exc e σ2 h2
   | .rse e σ2 h2=>.rse e σ2 h2
   | .bad=>.bad) else mSkip) (g:=fun x env s=>if x=true then (b.p env s).turn (pWhN t.p b.p n) else .nx env s) c d (t.ok c) fun x v h1 s1 kb c1 e=>?_
  subst e
  cases x with
  | false=>exact ⟨σ,h1,rfl,O,Stp.refl _ _ _ _,c1,d⟩
  | true =>
   have k:=b.ok c1 d
   rw[if_pos rfl,if_pos rfl]
   cases eb:b.p env s1 with
   | bad=>trivial
   | nx e2 s2 =>
    rw[eb] at k
    obtain ⟨σ2,h2,e1,O2,st,c2,d2⟩:=k
    rw[e1]
    exact (ik t b n e2 σ2 h2 O2 s2 c2 d2).after st
   | ct e2 s2 =>
    rw[eb] at k
    obtain ⟨σ2,h2,e1,O2,st,c2,d2⟩:=k
    rw[e1]
    exact (ik t b n e2 σ2 h2 O2 s2 c2 d2).after st
   | bk e2 s2=>rw[eb] at k;obtain ⟨σ2,h2,e1,r⟩:=k;rw[e1];exact ⟨σ2,h2,rfl,r⟩
   | exc x e2 s2=>rw[eb] at k;obtain ⟨σ2,h2,e1,r⟩:=k;rw[e1];exact ⟨σ2,h2,rfl,r⟩
   | rse x e2 s2=>rw[eb] at k;obtain ⟨σ2,h2,e1,r⟩:=k;rw[e1];exact ⟨σ2,h2,rfl,r⟩
   | rt x s2=>rw[eb] at k;obtain ⟨v,h2,e1,r⟩:=k;rw[e1];exact ⟨v,h2,rfl,r⟩
def xWh (N:Nat) (t:Xt ws) (b:Xd ws) (hm:∀{σ h n},mWhN t.m b.m n σ h≠.bad→mWh t.m b.m σ h=mWhN t.m b.m n σ h):Xd ws where
 m:=mWh t.m b.m
 p:=pWhN t.p b.p N
 fr:=b.fr
 ok {q h L B O σ env s} c d:=by
  have k:=ik t b N env σ h O s c d
  by_cases z:mWhN t.m b.m N σ h=.bad
  ·rw[z] at k
   cases e:pWhN t.p b.p N env s with
   | bad=>trivial
   | nx e2 s2=>rw[e] at k;obtain ⟨_,_,e1,_⟩:=k;cases e1
   | ct e2 s2=>rw[e] at k;obtain ⟨_,_,e1,_⟩:=k;cases e1
   | bk e2 s2=>rw[e] at k;obtain ⟨_,_,e1,_⟩:=k;cases e1
   | exc x e2 s2=>rw[e] at k;obtain ⟨_,_,e1,_⟩:=k;cases e1
   | rse x e2 s2=>rw[e] at k;obtain ⟨_,_,e1,_⟩:=k;cases e1
   | rt x s2=>rw[e] at k;obtain ⟨_,_,e1,_⟩:=k;cases e1
  ·rw[hm z];exact k
structure OpM where
 m:Nat→List PV→MH→Out PV
 p:List D→List D→Option (D × List D)
 ok:∀{q:Nat} {h:MH} {O:List Nat} {n:Nat} {xs:List PV} {ds as:List D} {vs:List PV} {d:D} {ds':List D},h[n]?=some (.lst xs)→Rps q h O ds xs→Rps q h O as vs→p ds as=some (d,ds')→∃v xs',m n vs h=.ok v (h.set n (.lst xs'))∧Rps q h O ds' xs'∧Rp q h O d v
theorem own_set {q h L B O σ env s n xs' ds' i ds} (c:Cx q h L B O ws σ env s) (d:Dis ws σ env) (hi:i∈ws) (e:env[i]?=some (some (D.lst ds))) (es:σ[i]?=some (some (.loc n))) (r:Rps q h O ds' xs') :
  Nxt q L h B O ws σ (h.set n (.lst xs')) (env.set i (some (.lst ds'))) s:=by
 obtain ⟨n',xs,ds0,e0,e2,a,b,g,r0⟩:=c.sr.ow i _ e hi
 rw[es] at e2
 cases e2
 have mv:Mv O h O (h.set n (.lst xs')):=⟨fun m hm no=>List.getElem?_set_ne (fun (z:n=m)=>no (z▸a)),fun o ho=>.inl ho⟩
 have hp:=c.pL
 have il:i<env.length:=(List.getElem?_eq_some_iff.mp e).1
 refine ⟨O,⟨by simp,mv,fun _ h=>h,fun m hm _=>List.getElem?_set_ne (by omega)⟩,⟨fun o ho=>by simpa using c.bd o ho,c.sub,c.bb,c.pb,by simpa using c.hL,?_,⟨by simp[c.sr.len],fun j x ej hj=>?_,fun j x ej hj=>?_⟩⟩,?_⟩
 ·unfold bn;rw[List.getElem?_set_ne (by omega)];exact c.pen
 ·have ne:i≠j:=fun z=>hj (z▸hi)
  rw[List.getElem?_set_ne ne] at ej
  obtain ⟨v,e1,w⟩:=c.sr.fz j x ej hj
  exact ⟨v,e1,w.mv mv⟩
 ·by_cases z:i=j
  ·subst z
   rw[List.getElem?_set_self il] at ej
   cases ej
   exact ⟨n,xs',ds',rfl,es,a,b,List.getElem?_set_self (aG g),r.mv mv⟩
  ·rw[List.getElem?_set_ne z] at ej
   obtain ⟨m,ys,es',e1,e3,b3,b4,b5,b6⟩:=c.sr.ow j x ej hj
   have:n≠m:=fun y=>d i j hi hj z _ _ n e ej es (y▸e3)
   exact ⟨m,ys,es',e1,e3,b3,b4,by rw[List.getElem?_set_ne this];exact b5,b6.mv mv⟩
 ·intro j k hj hk ne x y m ej ek e1
  have up:∀j x,(env.set i (some (D.lst ds')))[j]?=some (some x)→∃x',env[j]?=some (some x'):=fun j x ej=>by
   by_cases z:i=j
   ·subst z;exact ⟨_,e⟩
   ·rw[List.getElem?_set_ne z] at ej;exact ⟨x,ej⟩
  obtain ⟨x',ej'⟩:=up j x ej
  obtain ⟨y',ek'⟩:=up k y ek
  exact d j k hj hk ne x' y' m ej' ek' e1
theorem mt_ok (o:OpM) (i:Nat) (a:Xs ws) (hi:i∈ws) (hz:a.fz=true) {q h L B O σ env s} (c:Cx q h L B O ws σ env s) (d:Dis ws σ env) {as:List D} {s1:Pen} {ds:List D} {r:D} {ds':List D}
  (ea:a.p env s=.ok as s1) (ei:env[i]?=some (some (.lst ds))) (eo:o.p ds as=some (r,ds')):∃v h1 n xs',KB q h h1∧Cx q h1 L B O ws σ env s1∧σ[i]?=some (some (.loc n))∧mMt o.m (mVar i) a.m σ h=.ok v (h1.set n (.lst xs'))∧Rps q h1 O ds' xs'∧Rp q h1 O r v:=by
 obtain ⟨n,xs,ds0,e0,e2,b1,b2,g,r0⟩:=c.sr.ow i _ ei hi
 cases e0
 have ka:=a.ok c
 rw[ea] at ka
 obtain ⟨vs,h1,e3,kb,pn,_,rv⟩:=ka
 have c1:=c.kb kb pn
 have g1:h1[n]?=some (.lst xs):=(kb.keep n (aG g) (by have:=c.pL;omega)).trans g
 obtain ⟨v,xs',e4,r1,r2⟩:=o.ok g1 (r0.mv (kb.mv c.pO)) (rv hz) eo
 refine ⟨v,h1,n,xs',kb,c1,e2,?_,r1,r2⟩
 have em:mVar i σ h=.ok (.loc n) h:=by simp[mVar,e2]
 show (mVar i σ h).bind _=_
 rw[em]
 simp only[Out.bind_ok,g,e3,e4,Out.ne_ok]
def pMt (o:OpM) (i:Nat) (a:DEnv→Pen→PR (List D)) (env:DEnv) (s:Pen) (k:D→DEnv→Pen→PS):PS:=match a env s with
 | .ok as s1=>(match env[i]? with
  | some (some (.lst ds))=>(match o.p ds as with
   | some (r,ds')=>k r (env.set i (some (.lst ds'))) s1
   | none=>.bad)
  | _=>.bad)
 | _=>.bad
theorem lV {o:OpM} {i:Nat} {a:DEnv→Pen→PR (List D)} {env:DEnv} {s s1:Pen} {k:D→DEnv→Pen→PS} {as ds ds':List D} {r:D} (e1:a env s=.ok as s1) (e2:env[i]?=some (some (.lst ds))) (e3:o.p ds as=some (r,ds')):pMt o i a env s k=k r (env.set i (some (.lst ds'))) s1:=by
 simp only[pMt,e1,e2,e3]
theorem pMt_inv {o:OpM} {i:Nat} {a:DEnv→Pen→PR (List D)} {env:DEnv} {s:Pen} {k:D→DEnv→Pen→PS}:pMt o i a env s k=.bad∨∃as s1 ds r ds',a env s=.ok as s1∧env[i]?=some (some (.lst ds))∧o.p ds as=some (r,ds')∧pMt o i a env s k=k r (env.set i (some (.lst ds'))) s1:=by
 cases e1:a env s with
 | bad=>left;simp only[pMt,e1]
 | exc _ _=>left;simp only[pMt,e1]
 | ok as s1 =>
  cases e2:env[i]? with
  | none=>left;simp only[pMt,e1,e2]
  | some x =>
   cases x with
   | none=>left;simp only[pMt,e1,e2]
   | some d =>
    cases d with
    | lst ds =>
     cases e3:o.p ds as with
     | none=>left;simp only[pMt,e1,e2,e3]
     | some y=>exact .inr ⟨as,s1,ds,y.1,y.2,rfl,rfl,e3,lV e1 e2 e3⟩
    | _=>left;simp only[pMt,e1,e2]
def xMt (o:OpM) (i:Nat) (a:Xs ws) (hi:ws.contains i=true:=by exact ys rfl) (hz:a.fz=true:=by exact ys rfl):Xd ws where
 m:=fo (mMt o.m (mVar i) a.m)
 p:=fun env s=>pMt o i a.p env s fun _=>.nx
 fr:=true
 ok {q h L B O σ env s} c d:=by
  rcases pMt_inv (o:=o) (i:=i) (a:=a.p) (env:=env) (s:=s) (k:=fun _=>.nx) with z|⟨as,s1,ds,r,ds',e1,e2,e3,z⟩
  ·rw[z];trivial
  ·rw[z]
   have hi':i∈ws:=by simpa using hi
   obtain ⟨v,h1,n,xs',kb,c1,es,em,r1,r2⟩:=mt_ok o i a hi' hz c d e1 e2 e3
   refine ⟨σ,h1.set n (.lst xs'),?_,(own_set c1 d hi' e2 es r1).after (kb.stp c)⟩
   unfold fo mEx;rw[em];rfl
theorem Vw.int {q:Nat} {h:MH} {L:Nat} {O:List Nat} {b:Int} {v:PV} (w:Vw q h L O (.int b) v):v=.int b:=by
 rcases w with r|⟨n,xs,ds,e,_⟩
 ·exact r
 ·cases e
def PS.fin (r:PS):PR D:=match r with
 | .nx _ s=>.ok .non s
 | .rt d s=>.ok d s
 | .exc c _ s=>.exc c s
 | .rse c _ s=>.exc c s
 | _=>.bad
@[simp] theorem fin_nx {e:DEnv} {s:Pen}:(PS.nx e s).fin=.ok .non s:=rfl
@[simp] theorem dX {d:D} {s:Pen}:(PS.rt d s).fin=.ok d s:=rfl
@[simp] theorem fin_exc {c:Str} {e:DEnv} {s:Pen}:(PS.exc c e s).fin=.exc c s:=rfl
@[simp] theorem fin_rse {c:Str} {e:DEnv} {s:Pen}:(PS.rse c e s).fin=.exc c s:=rfl
@[simp] theorem fin_bad:PS.bad.fin=.bad:=rfl
def dSt (n:Nat) (ds:List D):DEnv:=ds.map some++List.replicate (n - ds.length) none
def xDef (n np:Nat) (b:Xd ws) (hw:ws.all (fun i=>decide (np≤i))=true:=by exact ys rfl):Fn where
 m:=mDef n np b.m
 p:=fun ds s=>if ds.length=np then (b.p (dSt n ds) s).fin else .bad
 fr:=b.fr
 ok {q h O vs ds s} bd hq pn r:=by
  by_cases hl:ds.length=np
  ·rw[if_pos hl]
   have hv:vs.length=np:=by rw[r.length];exact hl
   have low:∀i d,(dSt n ds)[i]?=some (some d)→i<np∧ds[i]?=some d:=fun i d e=>by
    by_cases z:i<ds.length
    ·refine ⟨by omega,?_⟩
     unfold dSt at e
     rw[List.getElem?_append_left (by simpa using z)] at e
     simp at e
     simpa using e
    ·unfold dSt at e
     rw[List.getElem?_append_right (by simpa using z)] at e
     by_cases y:i - (ds.map some).length<n - ds.length
     ·simp[List.getElem?_replicate,y] at e
     ·simp at y e
      exact absurd e (by simp[List.getElem?_replicate])
   have nw:∀i d,(dSt n ds)[i]?=some (some d)→i∉ws:=fun i d e hi=>by
    have:=(low i d e).1
    rw[List.all_eq_true] at hw
    have:=hw i hi
    simp at this
    omega
   have c:Cx q h h.length O O ws (be n vs) (dSt n ds) s:=by
    refine ⟨bd,fun _ h=>h,bd,hq,Nat.le_refl _,pn,⟨by simp[be,dSt,r.length],fun i d e _=>?_,fun i d e hi=>absurd hi (nw i d e)⟩⟩
    obtain ⟨v,ev,rv⟩:=r.get (low i d e).2
    refine ⟨v,?_,rv⟩
    unfold be
    rw[List.getElem?_append_left (by simpa using (List.getElem?_eq_some_iff.mp ev).1)]
    simp[ev]
   have k:=b.ok c fun i j hi _ _ d _ _ e=>absurd hi (nw i d e)
   have em:mDef n np b.m vs h=(match b.m (be n vs) h with
    | .nx _ h'=>.ok .non h'
    | .rt v h'=>.ok v h'
    | .exc x _ h'=>.exc x h'
    | .rse x _ h'=>.exc x h'
    | _=>.bad):=by unfold mDef;(rw[if_pos hv]) <;> (cases b.m (be n vs) h <;> rfl)
   rw[em]
   have kb:∀{h' O'},Stp q h.length h O h' O'→KB q h h':=fun st=>⟨st.len,fun m hm hq=>st.base m hm hq⟩
   cases e:b.p (dSt n ds) s with
   | nx e1 s1=>rw[e] at k;obtain ⟨σ',h',f,O',st,c',_⟩:=k;rw[f];exact ⟨.non,h',rfl,kb st,c'.pen,rfl,fun _ ds e=>by cases e⟩
   | exc x e1 s1=>rw[e] at k;obtain ⟨σ',h',f,O',st,c',_⟩:=k;rw[f];exact ⟨h',rfl,kb st,c'.pen⟩
   | rse x e1 s1=>rw[e] at k;obtain ⟨σ',h',f,O',st,c',_⟩:=k;rw[f];exact ⟨h',rfl,kb st,c'.pen⟩
   | rt x s1=>rw[e] at k;obtain ⟨v,h',f,l,b,p,rr⟩:=k;rw[f];exact ⟨v,h',rfl,⟨l,b⟩,p,rr⟩
   | bk e1 s1=>trivial
   | ct e1 s1=>trivial
   | bad=>trivial
  ·rw[if_neg hl];trivial
end
end PU
namespace PU
open PySem MM SetT SortT
open L2 (ixN atI CPow)
noncomputable local instance (priority:=1) cdecN6 (p:Prop):Decidable p:=Classical.propDecidable p
noncomputable section
section
variable {q:Nat} {h:MH} {L:Nat} {O:List Nat} {v:PV}
theorem Vw.non (w:Vw q h L O .non v):v=.non:=by
 rcases w with r|⟨n,xs,ds,e,_⟩
 ·exact r
 ·cases e
theorem Vw.str {x:Str} (w:Vw q h L O (.str x) v):v=.str x:=by
 rcases w with r|⟨n,xs,ds,e,_⟩
 ·exact r
 ·cases e
theorem Vw.lst {ds:List D} (w:Vw q h L O (.lst ds) v):∃n xs,v=.loc n∧h[n]?=some (.lst xs)∧Rps q h O ds xs:=by
 rcases w with ⟨n,xs,e,_,g,r⟩|⟨n,xs,ds',e,e1,_,_,g,r⟩
 ·exact ⟨n,xs,e,g,r⟩
 ·cases e;exact ⟨n,xs,e1,g,r⟩
theorem Vw.tup {ds:List D} (w:Vw q h L O (.tup ds) v):∃xs,v=.tup xs∧Rps q h O ds xs:=by
 rcases w with r|⟨n,xs,ds',e,_⟩
 ·exact r
 ·cases e
theorem gv0 {d:D} {fr:Bool} (r:Rp q h O d v) (hf:fr=true→∀ds,d≠.lst ds):Gv q h O fr (.ok v h) d :=
 ⟨v,[],by simp,by simpa using r,fun z ds e=>absurd e (hf z ds)⟩
theorem gvI {i:Int} {fr:Bool}:Gv q h O fr (.ok (.int i) h) (.int i):=gv0 rfl fun _ _ e=>by cases e
theorem gvB {i:Bool} {fr:Bool}:Gv q h O fr (.ok (.bl i) h) (.bl i):=gv0 rfl fun _ _ e=>by cases e
theorem vws1 {d:D} {vs:List PV} (w:Vws q h L O [d] vs):∃x,vs=[x]∧Vw q h L O d x:=by
 obtain ⟨x,r,e,a,b⟩:=w
 have:r=[]:=b
 subst this
 exact ⟨x,e,a⟩
end
def iiOp (m:PV→PV→MH→Out PV) (f:Int→Int→D) (g:Int→Int→PV) (hm:∀i j h,m (.int i) (.int j) h=.ok (g i j) h) (hg:∀i j q h O fr,Gv q h O fr (.ok (g i j) h) (f i j)):Op2 where
 m:=m
 p:=fun a b=>match a,b with
  | .int i,.int j=>some (f i j)
  | _,_=>none
 fr:=true
 ok {q h L O a x b y d} bd wa wb e:=by
  cases a with
  | int i =>
   cases b with
   | int j=>cases e;rw[wa.int,wb.int,hm];exact hg i j q h O true
   | _=>cases e
  | _=>cases e
def oSub:Op2:=iiOp opSub (fun i j=>.int (i - j)) (fun i j=>.int (i - j)) (fun _ _ _=>rfl) fun _ _ _ _ _ _=>gvI
def oLt:Op2:=iiOp opLt (fun i j=>.bl (decide (i<j))) (fun i j=>.bl (decide (i<j))) (fun _ _ _=>rfl) fun _ _ _ _ _ _=>gvB
def oGt:Op2:=iiOp opGt (fun i j=>.bl (decide (j<i))) (fun i j=>.bl (decide (j<i))) (fun _ _ _=>rfl) fun _ _ _ _ _ _=>gvB
def oGe:Op2:=iiOp opGe (fun i j=>.bl (decide (j≤i))) (fun i j=>.bl (decide (j≤i))) (fun _ _ _=>rfl) fun _ _ _ _ _ _=>gvB
def oAdd:Op2 where
 m:=opAdd
 p:=fun a b=>match a,b with
  | .int i,.int j=>some (.int (i+j))
  | .lst x,.lst y=>if x.length+y.length≤100000 then some (.lst (x++y)) else none
  | .tup (a::x),.tup y=>if x.length+1+y.length≤100000 then some (.tup (a::x++y)) else none
  | _,_=>none
 fr:=true
 ok {q h L O a x b y d} bd wa wb e:=by
  cases a with
  | int i =>
   cases b with
   | int j=>cases e;rw[wa.int,wb.int];exact gvI
   | _=>cases e
  | lst x =>
   cases b with
   | lst y =>
    dsimp only at e
    by_cases z:x.length+y.length≤100000
    ·rw[if_pos z] at e
     cases e
     obtain ⟨n,xs,rfl,g,r⟩:=wa.lst
     obtain ⟨n',ys,rfl,g',r'⟩:=wb.lst
     show Gv q h O true (match h[n]?,h[n']? with | some (.lst xs),some (.lst ys)=>newL (xs++ys) h | _,_=>.bad) _
     rw[g,g']
     exact f9 bd (r.app r') (by simpa using z)
    ·rw[if_neg z] at e;cases e
   | _=>cases e
  | tup x =>
   cases x with
   | nil=>cases b <;> cases e
   | cons a x =>
    cases b with
    | tup y =>
     dsimp only at e
     by_cases z:x.length+1+y.length≤100000
     ·rw[if_pos z] at e
      cases e
      obtain ⟨xs,rfl,r⟩:=wa.tup
      obtain ⟨ys,rfl,r'⟩:=wb.tup
      have ne:xs≠[]:=fun z=>by have:=r.length;simp[z] at this
      show Gv q h O true (if xs≠[] then newT (xs++ys) h else .bad) _
      rw[if_pos ne]
      exact kX (r.app r') (by simp;omega)
     ·rw[if_neg z] at e;cases e
    | _=>cases e
  | _=>cases e
theorem Rps.rep {q:Nat} {h:MH} {O:List Nat} {ds:List D} {xs:List PV} (r:Rps q h O ds xs):∀n,Rps q h O (List.replicate n ds).flatten (List.replicate n xs).flatten
 | 0=>rfl
 | n+1=>by
  rw[List.replicate_succ,List.replicate_succ,List.flatten_cons,List.flatten_cons]
  exact r.app (Rps.rep r n)
def oMul:Op2 where
 m:=opMul
 p:=fun a b=>match a,b with
  | .int i,.int j=>if IntMulOk i j then some (.int (i * j)) else none
  | .lst x,.int j=>if (0≤j∧j≤1000)∧((List.replicate j.toNat x).flatten).length≤100000 then some (.lst (List.replicate j.toNat x).flatten) else none
  | _,_=>none
 fr:=true
 ok {q h L O a x b y d} bd wa wb e:=by
  cases a with
  | int i =>
   cases b with
   | int j =>
    dsimp only at e
    by_cases z:IntMulOk i j
    ·rw[if_pos z] at e
     cases e;rw[wa.int,wb.int]
     show Gv q h O true (if IntMulOk i j then .ok (.int (i * j)) h else .bad) _
     rw[if_pos z];exact gvI
    ·rw[if_neg z] at e;cases e
   | _=>cases e
  | lst x =>
   cases b with
   | int j =>
    dsimp only at e
    by_cases z:(0≤j∧j≤1000)∧((List.replicate j.toNat x).flatten).length≤100000
    ·rw[if_pos z] at e
     cases e
     obtain ⟨n,xs,rfl,g,r⟩:=wa.lst
     rw[wb.int]
     show Gv q h O true (match h[n]? with | some (.lst xs)=>if -(2 ^ 63)≤j∧j<2 ^ 63 then newL (List.flatten (List.replicate j.toNat xs)) h else .bad | _=>.bad) _
     rw[g]
     dsimp only
     rw[if_pos (by omega)]
     exact f9 bd (r.rep _) z.2
    ·rw[if_neg z] at e;cases e
   | _=>cases e
  | _=>cases e
def oFd:Op2 where
 m:=opFd
 p:=fun a b=>match a,b with
  | .int i,.int j=>if j≠0∧Builtin.divisionGoesByPylong i j=false then some (.int (i.fdiv j)) else none
  | _,_=>none
 fr:=true
 ok {q h L O a x b y d} bd wa wb e:=by
  cases a with
  | int i =>
   cases b with
   | int j =>
    dsimp only at e
    by_cases z:j≠0∧Builtin.divisionGoesByPylong i j=false
    ·rw[if_pos z] at e
     cases e;rw[wa.int,wb.int]
     show Gv q h O true (if j≠0∧Builtin.divisionGoesByPylong i j=false then .ok (.int (i.fdiv j)) h else .bad) _
     rw[if_pos z];exact gvI
    ·rw[if_neg z] at e;cases e
   | _=>cases e
  | _=>cases e
def oMod:Op2 where
 m:=opMod
 p:=fun a b=>match a,b with
  | .int i,.int j=>if j≠0 then some (.int (i.fmod j)) else none
  | _,_=>none
 fr:=true
 ok {q h L O a x b y d} bd wa wb e:=by
  cases a with
  | int i =>
   cases b with
   | int j =>
    dsimp only at e
    by_cases z:j≠0
    ·rw[if_pos z] at e
     cases e;rw[wa.int,wb.int]
     show Gv q h O true (if j≠0 then .ok (.int (i.fmod j)) h else .bad) _
     rw[if_pos z];exact gvI
    ·rw[if_neg z] at e;cases e
   | _=>cases e
  | _=>cases e
def oPow:Op2 where
 m:=opPow
 p:=fun a b=>match a,b with
  | .int i,.int j=>if CPow i j then some (.int (i ^ j.toNat)) else none
  | _,_=>none
 fr:=true
 ok {q h L O a x b y d} bd wa wb e:=by
  cases a with
  | int i =>
   cases b with
   | int j =>
    dsimp only at e
    by_cases z:CPow i j
    ·rw[if_pos z] at e
     cases e;rw[wa.int,wb.int]
     show Gv q h O true (if CPow i j then .ok (.int (i ^ j.toNat)) h else .bad) _
     rw[if_pos z];exact gvI
    ·rw[if_neg z] at e;cases e
   | _=>cases e
  | _=>cases e
def oIx:Op2 where
 m:=opIx
 p:=fun a b=>match a,b with
  | .lst x,.int j=>atI x j
  | .tup x,.int j=>atI x j
  | _,_=>none
 fr:=false
 ok {q h L O a x b y d} bd wa wb e:=by
  have at':∀{ds:List D} {xs:List PV} {j:Int},Rps q h O ds xs→atI ds j=some d→∃v,atI xs j=some v∧Rp q h O d v:=fun {ds xs j} r e=>by
   unfold atI at e ⊢
   rw[r.length]
   cases e1:ixN ds.length j with
   | none=>rw[e1] at e;cases e
   | some k=>rw[e1] at e;exact r.get e
  cases b with
  | int j =>
   rw[wb.int]
   cases a with
   | lst ds =>
    obtain ⟨n,xs,rfl,g,r⟩:=wa.lst
    obtain ⟨v,e1,rv⟩:=at' r e
    show Gv q h O false (match h[n]? with | some (.lst xs)=>(match atI xs j with | some v=>.ok v h | none=>.bad) | _=>.bad) _
    rw[g];dsimp only;rw[e1]
    exact gv0 rv fun z=>by cases z
   | tup ds =>
    obtain ⟨xs,rfl,r⟩:=wa.tup
    obtain ⟨v,e1,rv⟩:=at' r e
    show Gv q h O false (match atI xs j with | some v=>.ok v h | none=>.bad) _
    rw[e1]
    exact gv0 rv fun z=>by cases z
   | _=>cases e
  | _=>cases a <;> cases e
mutual
def py:D→Option PyData
 | .non=>some .none
 | .bl b=>some (.bool b)
 | .int i=>some (.int i)
 | .str x=>some (.str x)
 | .tup ds=>(pys ds).map .tuple
 | .lst ds=>(pys ds).map .list
 | _=>none
def pys:List D→Option (List PyData)
 | []=>some []
 | d::ds=>match py d,pys ds with
  | some x,some xs=>some (x::xs)
  | _,_=>none
end
mutual
def dep:D→Nat
 | .tup ds=>1+deps ds
 | .lst ds=>1+deps ds
 | _=>0
def deps:List D→Nat
 | []=>0
 | d::ds=>max (dep d) (deps ds)
end
mutual
theorem rd_ok {q:Nat} {h:MH} {O:List Nat}:∀{d:D} {v:PV} {e:PyData} {n:Nat},Rp q h O d v→py d=some e→dep d≤n→rd n h v=some e
 | .non,_,_,n,r,e,_=>by rw[show _=PV.non from r];cases e;cases n <;> rfl
 | .bl b,_,_,n,r,e,_=>by rw[show _=PV.bl b from r];cases e;cases n <;> rfl
 | .int b,_,_,n,r,e,_=>by rw[show _=PV.int b from r];cases e;cases n <;> rfl
 | .str b,_,_,n,r,e,_=>by rw[show _=PV.str b from r];cases e;cases n <;> rfl
 | .tup ds,_,e,n,⟨xs,ex,r⟩,ep,hd=>by
  subst ex
  rw[py,Option.map_eq_some_iff] at ep
  obtain ⟨es,e1,rfl⟩:=ep
  rw[dep] at hd
  cases n with
  | zero=>omega
  | succ n=>simp only[rd];rw[hW r e1 (by omega)];rfl
 | .lst ds,_,e,n,⟨m,xs,ex,_,g,r⟩,ep,hd=>by
  subst ex
  rw[py,Option.map_eq_some_iff] at ep
  obtain ⟨es,e1,rfl⟩:=ep
  rw[dep] at hd
  cases n with
  | zero=>omega
  | succ n=>simp only[rd,g];rw[hW r e1 (by omega)];rfl
 | .dic,_,_,_,_,e,_=>by simp[py] at e
 | .exc _,_,_,_,_,e,_=>by simp[py] at e
 | .pen,_,_,_,_,e,_=>by simp[py] at e
theorem hW {q:Nat} {h:MH} {O:List Nat}:∀{ds:List D} {vs:List PV} {es:List PyData} {n:Nat},Rps q h O ds vs→pys ds=some es→deps ds≤n→cq (rd n h) vs=some es
 | [],_,_,_,r,e,_=>by rw[show _=[] from r];rw[pys] at e;cases e;rfl
 | d::ds,_,es,n,⟨x,t,ex,a,b⟩,e,hd=>by
  subst ex
  rw[deps] at hd
  rw[pys] at e
  cases e1:py d with
  | none=>rw[e1] at e;cases e
  | some y =>
   cases e2:pys ds with
   | none=>rw[e1,e2] at e;cases e
   | some ys =>
    rw[e1,e2] at e
    cases e
    have a1:=rd_ok (n:=n) a e1 (by omega)
    have b1:=hW (n:=n) b e2 (by omega)
    simp only[cq,a1,b1]
end
theorem jd {q:Nat} {h:MH} {L:Nat} {O:List Nat} {d:D} {v:PV} {e:PyData} (w:Vw q h L O d v) (ep:py d=some e) (hd:dep d≤60):rd 60 h v=some e:=by
 rcases w with r|⟨n,xs,ds,rfl,rfl,_,_,g,r⟩
 ·exact rd_ok r ep hd
 ·rw[py,Option.map_eq_some_iff] at ep
  obtain ⟨es,e1,rfl⟩:=ep
  rw[dep] at hd
  have a1:=hW (n:=59) r e1 (by omega)
  show (match h[n]? with | some (.lst xs)=>(cq (rd 59 h) xs).map PyData.list | _=>none)=_
  rw[g];dsimp only;rw[a1];rfl
def eqD (neg:Bool) (a b:D):Option D:=match py a,py b with
 | some x,some y=>if (dep a≤60∧dep b≤60)∧SeqAt.shaped x=true∧SeqAt.shaped y=true then some (.bl (if neg then !PyData.eqv x y else PyData.eqv x y)) else none
 | _,_=>none
theorem k4 {neg:Bool} {a b d:D} (e:eqD neg a b=some d):∃x y,py a=some x∧py b=some y∧(dep a≤60∧dep b≤60)∧(SeqAt.shaped x=true∧SeqAt.shaped y=true)∧d=.bl (if neg then !PyData.eqv x y else PyData.eqv x y):=by
 unfold eqD at e
 cases e1:py a with
 | none=>rw[e1] at e;cases e
 | some x =>
  cases e2:py b with
  | none=>rw[e1,e2] at e;cases e
  | some y =>
   rw[e1,e2] at e
   dsimp only at e
   by_cases z:(dep a≤60∧dep b≤60)∧SeqAt.shaped x=true∧SeqAt.shaped y=true
   ·rw[if_pos z] at e;cases e;exact ⟨x,y,rfl,rfl,z.1,z.2,rfl⟩
   ·rw[if_neg z] at e;cases e
def oEq:Op2 where
 m:=opEq
 p:=eqD false
 fr:=true
 ok {q h L O a x b y d} bd wa wb e:=by
  obtain ⟨u,w,e1,e2,hd,hs,rfl⟩:=k4 e
  unfold opEq
  rw[jd wa e1 hd.1,jd wb e2 hd.2]
  dsimp only
  rw[if_pos hs]
  exact gvB
def oNe:Op2 where
 m:=opNe
 p:=eqD true
 fr:=true
 ok {q h L O a x b y d} bd wa wb e:=by
  obtain ⟨u,w,e1,e2,hd,hs,rfl⟩:=k4 e
  unfold opNe
  rw[jd wa e1 hd.1,jd wb e2 hd.2]
  dsimp only
  rw[if_pos hs]
  exact gvB
theorem Vw.seqOf {q:Nat} {h:MH} {L:Nat} {O:List Nat} {d:D} {v:PV} {ds:List D} (w:Vw q h L O d v) (e:d.items=some ds):∃xs,MM.cG h v=some xs∧Rps q h O ds xs:=by
 cases d with
 | lst es=>cases e;obtain ⟨n,xs,rfl,g,r⟩:=w.lst;exact ⟨xs,by simp[MM.cG,g],r⟩
 | tup es=>cases e;obtain ⟨xs,rfl,r⟩:=w.tup;exact ⟨xs,rfl,r⟩
 | _=>cases e
end
noncomputable section
def oNeg:Op1 where
 m:=opNeg
 p:=fun a=>match a with
  | .int i=>some (.int (-i))
  | _=>none
 fr:=true
 ok {q h L O a x d} bd w e:=by
  cases a with
  | int i=>cases e;rw[w.int];exact gvI
  | _=>cases e
def tyD:D→Option String
 | .non=>some "NoneType"
 | .bl _=>some "bool"
 | .int _=>some "int"
 | .str _=>some "str"
 | .tup _=>some "tuple"
 | .lst _=>some "list"
 | .dic=>some "dict"
 | _=>none
theorem ty_ok {q:Nat} {h:MH} {L:Nat} {O:List Nat} {d:D} {v:PV} {t:String} (w:Vw q h L O d v) (e:tyD d=some t):tyP h v=some t:=by
 cases d with
 | non=>cases e;rw[w.non];rfl
 | bl b=>cases e;rw[w.bl];rfl
 | int b=>cases e;rw[w.int];rfl
 | str b=>cases e;rw[w.str];rfl
 | tup b=>cases e;obtain ⟨xs,rfl,_⟩:=w.tup;rfl
 | lst b=>cases e;obtain ⟨n,xs,rfl,g,_⟩:=w.lst;simp[tyP,g]
 | dic =>
  cases e
  rcases w with ⟨n,rfl,_,g⟩|⟨n,xs,ds,e,_⟩
  ·simp[tyP,g]
  ·cases e
 | _=>cases e
def oIsi (Ts:List String):Op1 where
 m:=fIsi Ts
 p:=fun a=>(tyD a).map fun t=>.bl (Ts.any (isaT t))
 fr:=true
 ok {q h L O a x d} bd w e:=by
  rw[Option.map_eq_some_iff] at e
  obtain ⟨t,e1,rfl⟩:=e
  unfold fIsi
  rw[ty_ok w e1]
  exact gvB
def cAbs:OpN where
 k:=fun xs h=>(fAbs xs h).ne
 p:=fun as=>match as with
  | [.int i]=>some (.int (if i<0 then -i else i))
  | _=>none
 fr:=true
 ok {q h L O as xs d} bd w e:=by
  match as,e with
  | [.int i],e=>cases e;obtain ⟨x,rfl,a⟩:=vws1 w;rw[a.int];exact gvI
def cStr:OpN where
 k:=fun xs h=>(fStr xs h).ne
 p:=fun as=>match as with
  | [.int i]=>if i.natAbs.log2<1920 then some (.str (toString i)) else none
  | _=>none
 fr:=true
 ok {q h L O as xs d} bd w e:=by
  match as,e with
  | [.int i],e =>
   dsimp only at e
   by_cases z:i.natAbs.log2<1920
   ·rw[if_pos z] at e
    cases e;obtain ⟨x,rfl,a⟩:=vws1 w;rw[a.int]
    show Gv q h O true (if i.natAbs.log2<1920 then Out.ok (PV.str (toString i)) h else .bad).ne _
    rw[if_pos z];exact gv0 rfl fun _ _ e=>by cases e
   ·rw[if_neg z] at e;cases e
def lL:OpN where
 k:=fun xs h=>(fList xs h).ne
 p:=fun as=>match as with
  | [d]=>d.items.bind fun ds=>if ds.length≤100000 then some (.lst ds) else none
  | _=>none
 fr:=true
 ok {q h L O as xs d} bd w e:=by
  match as,e with
  | [a],e =>
   obtain ⟨x,rfl,wx⟩:=vws1 w
   rw[Option.bind_eq_some_iff] at e
   obtain ⟨ds,e1,e2⟩:=e
   obtain ⟨xs,e3,r⟩:=wx.seqOf e1
   by_cases z:ds.length≤100000
   ·rw[if_pos z] at e2
    cases e2
    obtain ⟨v,g,e4,r4⟩:=f9 bd r z
    exact ⟨v,g,by simp only[fList,e3];rw[e4];rfl,r4⟩
   ·rw[if_neg z] at e2;cases e2
def gX:OpN where
 k:=fun xs h=>(fTuple xs h).ne
 p:=fun as=>match as with
  | [d]=>d.items.map .tup
  | _=>none
 fr:=true
 ok {q h L O as xs d} bd w e:=by
  match as,e with
  | [a],e =>
   obtain ⟨x,rfl,wx⟩:=vws1 w
   rw[Option.map_eq_some_iff] at e
   obtain ⟨ds,e1,rfl⟩:=e
   obtain ⟨xs,e3,r⟩:=wx.seqOf e1
   simp only[fTuple,e3]
   exact gv0 ⟨xs,rfl,r⟩ fun _ _ e=>by cases e
theorem jP {q:Nat} {h:MH} {O:List Nat}:∀(bs:List Int),Rps q h O (bs.map .int) (bs.map .int)
 | []=>rfl
 | b::bs=>⟨_,_,rfl,rfl,jP bs⟩
def rngD (lo:Int) (n:Nat):List D:=(List.range n).map fun (i:Nat)=>D.int (lo+(i:Int))
theorem rps_rng {q:Nat} {h:MH} {O:List Nat} {lo:Int} {n:Nat}:Rps q h O (rngD lo n) (aW lo n):=by
 have:=jP (q:=q) (h:=h) (O:=O) ((List.range n).map fun (i:Nat)=>lo+(i:Int))
 rw[List.map_map,List.map_map] at this
 exact this
def iR1:OpI where
 k:=fun vs h1=>match vs with
  | [.int j]=>if -(2 ^ 62)≤j∧j<2 ^ 62 then .ok ⟨aW 0 j.toNat,[]⟩ h1 else .bad
  | _=>.bad
 p:=fun as=>match as with
  | [.int j]=>if -100000≤j∧j≤100000 then some (rngD 0 j.toNat) else none
  | _=>none
 ok {q h L O as xs d} hq hO bd w e:=by
  match as,e with
  | [.int j],e =>
   obtain ⟨x,rfl,wx⟩:=vws1 w
   rw[wx.int]
   dsimp only at e
   by_cases z:-100000≤j∧j≤100000
   ·rw[if_pos z] at e
    cases e
    dsimp only
    rw[if_pos ⟨by omega,by omega⟩]
    exact ⟨_,rfl,rps_rng,(fun _ hg=>nomatch hg),fun _ _ hg=>nomatch hg⟩
   ·rw[if_neg z] at e;cases e
theorem Vw.sqAny {q:Nat} {h:MH} {L:Nat} {O:List Nat} {d:D} {v:PV} {ds:List D} (hq:q<L) (hO:q∈O) (w:Vw q h L O d v) (e:d.items=some ds):∃t xs gd,MM.de v h=some (t,xs,gd)∧Rps q h O ds xs∧(∀g∈gd,h[g.1]?=some (.lst g.2)∧g.1≠q)∧(Rp q h O d v→∀g∈gd,g.1∉O):=by
 obtain ⟨xs,gd,e1,r,g1,g2⟩:=w.seq hq hO e
 cases d with
 | lst es =>
  cases e
  obtain ⟨n,ys,rfl,g,r'⟩:=w.lst
  simp only[itAny,g] at e1
  cases e1
  exact ⟨false,xs,[(n,xs)],by simp[MM.de,g],r',g1,g2⟩
 | tup es =>
  cases e
  obtain ⟨ys,rfl,r'⟩:=w.tup
  simp only[itAny] at e1
  cases e1
  exact ⟨true,_,[],rfl,r',g1,g2⟩
 | _=>cases e
def fh (ds:List D):List D:=ds.zipIdx.map fun p=>.tup [.int (p.2:Int),p.1]
theorem jx {q:Nat} {h:MH} {O:List Nat}:∀{ds:List D} {xs:List PV} (n:Nat),Rps q h O ds xs→Rps q h O ((ds.zipIdx n).map fun p=>.tup [.int (p.2:Int),p.1]) ((xs.zipIdx n).map fun p=>.tup [.int (p.2:Int),p.1])
 | [],_,_,r=>by rw[show _=[] from r];rfl
 | d::ds,_,n,⟨x,t,e,a,b⟩=>by
  subst e
  exact ⟨_,_,rfl,⟨_,rfl,⟨_,_,rfl,rfl,⟨_,_,rfl,a,rfl⟩⟩⟩,jx (n+1) b⟩
def iE:OpI where
 k:=fun vs h1=>match vs with
  | [x]=>(match de x h1 with
   | some (_,xs,gd)=>.ok ⟨d6 xs,gd⟩ h1
   | none=>.bad)
  | _=>.bad
 p:=fun as=>match as with
  | [d]=>d.items.map fh
  | _=>none
 ok {q h L O as xs d} hq hO bd w e:=by
  match as,e with
  | [a],e =>
   obtain ⟨x,rfl,wx⟩:=vws1 w
   rw[Option.map_eq_some_iff] at e
   obtain ⟨ds,e1,rfl⟩:=e
   obtain ⟨t,ys,gd,e2,r,g1,g2⟩:=wx.sqAny hq hO e1
   refine ⟨⟨d6 ys,gd⟩,by simp only[e2],jx 0 r,g1,fun z=>g2 ?_⟩
   obtain ⟨x',r',e3,a,_⟩:=z
   cases e3;exact a
section
variable {ws:List Nat}
end
def im:OpM where
 m:=eK
 p:=fun ds as=>match as with
  | [a]=>if ds.length<100000 then some (.non,ds++[a]) else none
  | _=>none
 ok {q h O n xs ds as vs d ds'} g r ra e:=by
  match as,e with
  | [a],e =>
   obtain ⟨x,t,rfl,a,b⟩:=ra
   have:t=[]:=b
   subst this
   dsimp only at e
   by_cases z:ds.length<100000
   ·rw[if_pos z] at e
    cases e
    refine ⟨.non,xs++[x],?_,r.app ⟨x,[],rfl,a,rfl⟩,rfl⟩
    simp only[eK,g]
    rw[if_pos (by have:=dQ;rw[r.length];omega)]
   ·rw[if_neg z] at e;cases e
def na:OpM where
 m:=fS
 p:=fun ds as=>match as with
  | []=>some (.non,[])
  | _=>none
 ok {q h O n xs ds as vs d ds'} g r ra e:=by
  match as,e with
  | [],e =>
   have:vs=[]:=ra
   subst this
   cases e
   exact ⟨.non,[],by simp only[fS,g],rfl,rfl⟩
end
section
variable {ws:List Nat} {env:DEnv} {s:Pen}
@[simp] theorem aJ {d:D} {r:DEnv}:(xVar 0:Xe ws).p (some d::r) s=.ok d s:=rfl
@[simp] theorem aY {i:Nat} {o:Option D} {r:DEnv}:(xVar (i+1):Xe ws).p (o::r) s=(xVar i:Xe ws).p r s:=by simp[xVar]
theorem xVar_at {i:Nat} {d:D} (e:env[i]?=some (some d)):(xVar i:Xe ws).p env s=.ok d s:=by
 show (match env[i]? with | some (some d)=>PR.ok d s | _=>.bad)=_
 rw[e]
@[simp] theorem xC_p {k:Cn}:(xC k:Xe ws).p env s=.ok k.d s:=rfl
@[simp] theorem cn_non:Cn.non.d=.non:=rfl
@[simp] theorem cn_bl {b:Bool}:(Cn.bl b).d=.bl b:=rfl
@[simp] theorem bF {b:Int}:(Cn.int b).d=.int b:=rfl
@[simp] theorem cP {b:Str}:(Cn.str b).d=.str b:=rfl
@[simp] theorem aV {o:Op2} {a b:Xe ws}:(xBin o a b).p env s=(a.p env s).bind fun x s1=>(b.p env s1).bind fun y s2=>.of (o.p x y) s2:=rfl
@[simp] theorem xUn_p {o:Op1} {a:Xe ws}:(xUn o a).p env s=(a.p env s).bind fun x s1=>.of (o.p x) s1:=rfl
@[simp] theorem aF:(xNil:Xs ws).p env s=.ok [] s:=rfl
@[simp] theorem aA {a:Xe ws} {r:Xs ws}:(ae a r).p env s=(a.p env s).bind fun x s1=>(r.p env s1).bind fun y s2=>.ok (x::y) s2:=rfl
@[simp] theorem dA {o:OpN} {a:Xs ws}:(xCb o a).p env s=(a.p env s).bind fun x s1=>.of (o.p x) s1:=rfl
@[simp] theorem bh {f:Fn} {a:Xs ws} {h:a.fz=true}:(am f a h).p env s=(a.p env s).bind f.p:=rfl
@[simp] theorem kR {f:Fn} {a:Xs ws} {h:f.fr=true}:(lJ f a h).p env s=((a.p env s).bind f.p).bind fun d s=>if lend d=true then .ok d s else .bad:=rfl
@[simp] theorem dP {a:Xs ws} {h:a.fz=true}:(xLst a h).p env s=(a.p env s).bind fun x s1=>if x.length≤100000 then .ok (.lst x) s1 else .bad:=rfl
@[simp] theorem jy {a:Xs ws} {h:a.fz=true}:(xTup a h).p env s=(a.p env s).bind fun x s1=>if x.length≤100000 then .ok (.tup x) s1 else .bad:=rfl
@[simp] theorem xB_p {a:Xe ws}:(xB a).p env s=(a.p env s).bl:=rfl
@[simp] theorem xNot_p {a:Xt ws}:(xNot a).p env s=(a.p env s).bind fun b s=>.ok (!b) s:=rfl
@[simp] theorem xOr_p {a b:Xt ws}:(xOr a b).p env s=(a.p env s).bind fun x s=>if x=true then .ok true s else b.p env s:=rfl
@[simp] theorem xTrue_p:(xTrue:Xt ws).p env s=.ok true s:=rfl
@[simp] theorem xAndV_p {a b:Xe ws}:(lx a b).p env s=(a.p env s).bl.bind fun x s=>if x=true then (b.p env s).bl.bind fun y s=>.ok (.bl y) s else .ok (.bl false) s:=rfl
@[simp] theorem xNotV_p {a:Xe ws}:(xNotV a).p env s=(a.p env s).bl.bind fun x s=>.ok (.bl (!x)) s:=rfl
@[simp] theorem dR {o:OpI} {a:Xs ws}:(xItA o a).p env s=(a.p env s).bind fun x s1=>.of (o.p x) s1:=rfl
@[simp] theorem xItS_p {a:Xe ws}:(xItS a).p env s=(a.p env s).bind fun x s1=>.of x.items s1:=rfl
@[simp] theorem xNm_p {i:Nat} {h:ws.contains i=false} {d:D}:(xNm i h).p d env=some (env.set i (some d)):=rfl
@[simp] theorem xGl_p:(xGl:Xgs ws).p [] env=some env:=rfl
@[simp] theorem xGc_p {a:Xg ws} {t:Xgs ws} {d:D} {ds:List D}:(xGc a t).p (d::ds) env=(a.p d env).bind fun env1=>t.p ds env1:=rfl
@[simp] theorem xGp_p {t:Xgs ws} {n:Nat} {ds:List D}:(xGp t n).p (.tup ds) env=if ds.length=n then t.p ds env else none:=rfl
@[simp] theorem ii {nv:Nat} {fm:List Nat} {i:Xi ws} {ws':List Nat} {g:Xg ws'} {t:Xt ws'} {e:Xe ws'} {hw:cws nv fm ws=ws'} {hz:e.fz=true}:(bE nv fm i g t e hw hz).p env s=(i.p env s).bind fun ds s1=>if ds.length≤100000 then (match bN g.p t.p e.p ds (cenv nv fm env) s1 with
  | .ok r s2=>.ok (.lst r) s2
  | _=>.bad) else .bad:=rfl
@[simp] theorem bV {a b:Xd ws}:(xSeq a b).p env s=(a.p env s).then b.p:=rfl
@[simp] theorem kJ:(xSkip:Xd ws).p env s=.nx env s:=rfl
@[simp] theorem cF {e:Xe ws}:(xRet e).p env s=(e.p env s).go env fun d _ s=>.rt d s:=rfl
theorem xRetO_p {i:Nat} {h:ws.contains i=true} {d:D} (e:env[i]?=some (some d)):(xRetO i h).p env s=.rt d s:=by
 show (match env[i]? with | some (some d)=>PS.rt d s | _=>.bad)=_
 rw[e]
@[simp] theorem xIf_p {t:Xt ws} {a b:Xd ws}:(xIf t a b).p env s=(t.p env s).go env fun x env s=>if x=true then a.p env s else b.p env s:=rfl
@[simp] theorem dn {i:Nat} {e:Xe ws} {hi:ws.contains i=false} {hz:e.fz=true}:(xSet i e hi hz).p env s=(e.p env s).go env fun d env s=>.nx (env.set i (some d)) s:=rfl
@[simp] theorem kE {i:Nat} {e:Xe ws} {hi:ws.contains i=true} {hz:e.fr=true}:(jk i e hi hz).p env s=(e.p env s).go env fun d env s=>match d with
  | .lst ds=>.nx (env.set i (some (.lst ds))) s
  | _=>.bad:=rfl
@[simp] theorem xRaise_p {x:Str} {a:Xs ws}:(kj x a).p env s=(a.p env s).go env fun ds env s=>if ds.length≤100000 then .rse x env s else .bad:=rfl
@[simp] theorem j9 {i:Xi ws} {g:Xg ws} {b:Xd ws} {hz:i.fz=true}:(xFor i g b hz).p env s=(i.p env s).go env fun ds env s=>pGo g.p b.p ds env s:=rfl
@[simp] theorem xMt_p {o:OpM} {i:Nat} {a:Xs ws} {hi:ws.contains i=true} {hz:a.fz=true}:(xMt o i a hi hz).p env s=pMt o i a.p env s fun _=>.nx:=rfl
theorem aQ {n np:Nat} {b:Xd ws} {hw} {ds:List D} (hl:ds.length=np):(xDef n np b hw).p ds s=(b.p (dSt n ds) s).fin:=by
 show (if ds.length=np then _ else _)=_
 rw[if_pos hl]
variable {i j:Int} {b:Bool} {x y:List D}
@[simp] theorem oAdd_ii:oAdd.p (.int i) (.int j)=some (.int (i+j)):=rfl
theorem ip (h:x.length+y.length≤100000):oAdd.p (.lst x) (.lst y)=some (.lst (x++y)):=by
 show (if x.length+y.length≤100000 then _ else _)=_
 rw[if_pos h]
@[simp] theorem oSub_ii:oSub.p (.int i) (.int j)=some (.int (i - j)):=rfl
@[simp] theorem oLt_ii:oLt.p (.int i) (.int j)=some (.bl (decide (i<j))):=rfl
@[simp] theorem oGt_ii:oGt.p (.int i) (.int j)=some (.bl (decide (j<i))):=rfl
@[simp] theorem lQ:oGe.p (.int i) (.int j)=some (.bl (decide (j≤i))):=rfl
@[simp] theorem oIx_l:oIx.p (.lst x) (.int j)=atI x j:=rfl
@[simp] theorem ls:oIx.p (.tup x) (.int j)=atI x j:=rfl
theorem oMod_ii (h:j≠0):oMod.p (.int i) (.int j)=some (.int (i.fmod j)):=by
 show (if j≠0 then _ else _)=_
 rw[if_pos h]
@[simp] theorem oIsi_p {Ts:List String} {d:D}:(oIsi Ts).p d=(tyD d).map fun t=>.bl (Ts.any (isaT t)):=rfl
@[simp] theorem ty_non:tyD .non=some "NoneType":=rfl
@[simp] theorem ty_bl:tyD (.bl b)=some "bool":=rfl
@[simp] theorem ty_int:tyD (.int i)=some "int":=rfl
@[simp] theorem ty_str {z:Str}:tyD (.str z)=some "str":=rfl
@[simp] theorem ty_tup:tyD (.tup x)=some "tuple":=rfl
@[simp] theorem ty_lst:tyD (.lst x)=some "list":=rfl
@[simp] theorem ty_dic:tyD .dic=some "dict":=rfl
theorem cList_l (h:x.length≤100000):lL.p [.lst x]=some (.lst x):=by
 show (if x.length≤100000 then _ else _)=_
 rw[if_pos h]
@[simp] theorem cTuple_l:gX.p [.lst x]=some (.tup x):=rfl
@[simp] theorem cTuple_t:gX.p [.tup x]=some (.tup x):=rfl
theorem fY (h:-100000≤i∧i≤100000):iR1.p [.int i]=some (rngD 0 i.toNat):=by
 show (if _ then _ else _)=_
 rw[if_pos h]
@[simp] theorem iE_l:iE.p [.lst x]=some (fh x):=rfl
theorem mk {a:D} (h:x.length<100000):im.p x [a]=some (.non,x++[a]):=by
 show (if _ then _ else _)=_
 rw[if_pos h]
end
section
variable {i j:Int} {b c:Bool}
theorem iK {x:PyData} (h1:x.canLay0=true) (h2:x.depth≤64):SeqAt.shaped x=true:=by simp[SeqAt.shaped,h1,h2]
@[simp] theorem eqD_ii {neg:Bool}:eqD neg (.int i) (.int j)=some (.bl (if neg then !decide (i=j) else decide (i=j))):=by
 simp[eqD,py,dep,SeqAt.shaped,PyData.canLay0,PyData.depth,PyData.eqv,Bool.beq_eq_decide_eq]
@[simp] theorem eqD_bb {neg:Bool}:eqD neg (.bl b) (.bl c)=some (.bl (if neg then !(b == c) else b == c)):=by
 simp[eqD,py,dep,SeqAt.shaped,PyData.canLay0,PyData.depth,PyData.eqv]
@[simp] theorem oEq_p {a d:D}:oEq.p a d=eqD false a d:=rfl
@[simp] theorem oNe_p {a d:D}:oNe.p a d=eqD true a d:=rfl
end
@[simp] theorem pGo_nil {g:D→DEnv→Option DEnv} {b:DEnv→Pen→PS} {env:DEnv} {s:Pen}:pGo g b [] env s=.nx env s:=rfl
theorem ou {g:D→DEnv→Option DEnv} {b:DEnv→Pen→PS} {d:D} {ds:List D} {env env1:DEnv} {s:Pen} (e:g d env=some env1):pGo g b (d::ds) env s=(b env1 s).turn (pGo g b ds):=by
 rw[pGo,e]
theorem gh {g:D→DEnv→Option DEnv} {b:DEnv→Pen→PS} (I:Nat→DEnv→Pen→Prop):∀(ds:List D) (j:Nat) (env:DEnv) (s:Pen),I j env s →
  (∀m env s d,I (j+m) env s→ds[m]?=some d→∃env1 env' s',g d env=some env1∧b env1 s=.nx env' s'∧I (j+m+1) env' s')→∃env' s',pGo g b ds env s=.nx env' s'∧I (j+ds.length) env' s'
 | [],j,env,s,hI,_=>⟨env,s,rfl,hI⟩
 | d::ds,j,env,s,hI,st=>by
  obtain ⟨env1,env2,s2,e1,e2,I2⟩:=st 0 env s d hI rfl
  obtain ⟨env3,s3,e3,I3⟩:=gh I ds (j+1) env2 s2 I2 fun m env' s' x q z=>by
   have:=st (m+1) env' s' x (by rw[show j+(m+1)=j+1+m by omega];exact q) (by simpa using z)
   rw[show j+(m+1)+1=j+1+m+1 by omega] at this
   exact this
  refine ⟨env3,s3,?_,by rw[List.length_cons,show j+(ds.length+1)=j+1+ds.length by omega];exact I3⟩
  rw[ou e1,e2];exact e3
theorem ia {g:D→DEnv→Option DEnv} {t:DEnv→Pen→PR Bool} {e:DEnv→Pen→PR D} {s:Pen} {fr:DEnv} {nv:Nat} (p:D→Bool) (f:D→D):∀(ds:List D) (vs:DEnv),vs.length=nv →
  (∀x∈ds,∀vs:DEnv,vs.length=nv→∃vs':DEnv,vs'.length=nv∧g x (vs++fr)=some (vs'++fr)∧t (vs'++fr) s=.ok (p x) s∧(p x=true→e (vs'++fr) s=.ok (f x) s))→bN g t e ds (vs++fr) s=.ok ((ds.filter p).map f) s
 | [],vs,hv,body=>rfl
 | x::ds,vs,hv,body=>by
  obtain ⟨vs',hv',e1,e2,e3⟩:=body x (by simp) vs hv
  have ih:=ia p f ds vs' hv' fun y hy=>body y (List.mem_cons_of_mem _ hy)
  rw[bN,e1]
  dsimp only
  rw[e2]
  cases hp:p x with
  | true=>simp only[PR.bind_ok,if_true,e3 hp,ih,List.filter_cons_of_pos hp,List.map_cons]
  | false=>simp only[PR.bind_ok,Bool.false_eq_true,if_false,ih,List.filter_cons_of_neg (show ¬p x=true by simp[hp])]
theorem gJ {ws ws':List Nat} {env:DEnv} {s:Pen} {nv:Nat} {fm:List Nat} {i:Xi ws} {g:Xg ws'} {t:Xt ws'} {e:Xe ws'} {hw:cws nv fm ws=ws'} {hz:e.fz=true} {ds:List D} (p:D→Bool) (f:D→D) (ei:i.p env s=.ok ds s) (hl:ds.length≤100000)
  (body:∀x∈ds,∀vs:DEnv,vs.length=nv→∃vs':DEnv,vs'.length=nv∧g.p x (vs++fm.map fun i=>(env[i]?).getD none)=some (vs'++fm.map fun i=>(env[i]?).getD none)∧t.p (vs'++fm.map fun i=>(env[i]?).getD none) s=.ok (p x) s∧(p x=true→e.p (vs'++fm.map fun i=>(env[i]?).getD none) s=.ok (f x) s)) :
  (bE nv fm i g t e hw hz).p env s=.ok (.lst ((ds.filter p).map f)) s:=by
 rw[ii,ei,PR.bind_ok,if_pos hl]
 unfold cenv
 rw[ia p f ds _ (by simp) body]
theorem comp1 {ws ws':List Nat} {env:DEnv} {s:Pen} {fm:List Nat} {i:Xi ws} {t:Xt ws'} {e:Xe ws'} {ds:List D} (p:D→Bool) (f:D→D) (ei:i.p env s=.ok ds s) (hl:ds.length≤100000)
  (body:∀x∈ds,t.p (some x::fm.map fun i=>(env[i]?).getD none) s=.ok (p x) s∧(p x=true→e.p (some x::fm.map fun i=>(env[i]?).getD none) s=.ok (f x) s)) (h0:ws'.contains 0=false:=by exact ys rfl) (hw:cws 1 fm ws=ws':=by exact ys rfl) (hz:e.fz=true:=by exact ys rfl) :
  (bE 1 fm i (xNm 0 h0) t e hw hz).p env s=.ok (.lst ((ds.filter p).map f)) s :=
 gJ p f ei hl fun x hx vs hv=>match vs,hv with
  | [_],_=>⟨[some x],rfl,rfl,body x hx⟩
theorem gR {ws ws':List Nat} {env:DEnv} {s:Pen} {fm:List Nat} {i:Xi ws} {t:Xt ws'} {e:Xe ws'} {ds:List D} (p:D→Bool) (f:D→D) (ei:i.p env s=.ok ds s) (hl:ds.length≤100000)
  (body:∀x∈ds,∃a b,x=.tup [a,b]∧t.p (some a::some b::fm.map fun i=>(env[i]?).getD none) s=.ok (p x) s∧(p x=true→e.p (some a::some b::fm.map fun i=>(env[i]?).getD none) s=.ok (f x) s)) (h0:ws'.contains 0=false:=by exact ys rfl) (h1:ws'.contains 1=false:=by exact ys rfl) (hw:cws 2 fm ws=ws':=by exact ys rfl) (hz:e.fz=true:=by exact ys rfl) :
  (bE 2 fm i (xGp (xGc (xNm 0 h0) (xGc (xNm 1 h1) xGl)) 2) t e hw hz).p env s=.ok (.lst ((ds.filter p).map f)) s :=
 gJ p f ei hl fun x hx vs hv=>match vs,hv with
  | [_,_],_=>let ⟨a,b,e,q⟩:=body x hx;⟨[some a,some b],rfl,by subst e;rfl,q⟩
end PU
namespace PU
open PySem MM SetT SortT
open L2 (ixN atI CPow)
theorem d5 {α:Type} (l:List α):(l.filter fun _=>true)=l:=List.filter_eq_self.mpr (by simp)
theorem dN {i:Int} (h:0≤i):∃n:Nat,i=(n:Int):=⟨i.toNat,by omega⟩
end PU
namespace PU
open PySem MM SetT SortT
open L2 (ixN atI CPow)
noncomputable local instance (priority:=1) cdecN10 (p:Prop):Decidable p:=Classical.propDecidable p
noncomputable section
section
variable {ws:List Nat}
structure OpR where
 m:Nat→List PV→MH→Out PV
 p:List D→List D→Option D
 ok:∀{q:Nat} {h:MH} {L:Nat} {O:List Nat} {n:Nat} {xs:List PV} {ds as:List D} {vs:List PV} {d:D},h[n]?=some (.lst xs)→Rps q h O ds xs→Vws q h L O as vs→p ds as=some d→∃v,m n vs h=.ok v h∧Rp q h O d v∧∀es,d≠.lst es
end
section
variable {ws:List Nat} {env:DEnv} {s:Pen}
end
end
noncomputable section
def aw:Op2 where
 m:=opAdd
 p:=fun a b=>match a,b with
  | .str x,.str y=>if x.length+y.length≤sizeLine then some (.str (x++y)) else none
  | a,b=>oAdd.p a b
 fr:=true
 ok {q h L O a x b y d} bd wa wb e:=by
  cases a with
  | str u =>
   cases b with
   | str w =>
    dsimp only at e
    by_cases z:u.length+w.length≤sizeLine
    ·rw[if_pos z] at e
     cases e
     rw[wa.str,wb.str]
     show Gv q h O true (if u.length+w.length≤sizeLine then .ok (.str (u++w)) h else .bad) _
     rw[if_pos z];exact gv0 rfl fun _ _ e=>by cases e
    ·rw[if_neg z] at e;cases e
   | _=>cases e
  | _=>exact oAdd.ok bd wa wb e
def d8:List D→Option (List Str)
 | []=>some []
 | .str x::r=>(d8 r).map (x::·)
 | _=>none
theorem nZ {q:Nat} {h:MH} {O:List Nat}:∀{ds:List D} {xs:List PV} {ts:List Str},Rps q h O ds xs→d8 ds=some ts→fg xs=some ts:=by
 intro ds
 induction ds with
 | nil=>intro xs ts r e;rw[show xs=[] from r];cases e;rfl
 | cons d ds ih =>
  intro xs ts r e
  obtain ⟨x,t,rfl,r1,r2⟩:=r
  cases d with
  | str z =>
   unfold d8 at e
   rw[Option.map_eq_some_iff] at e
   obtain ⟨ts',e1,rfl⟩:=e
   rw[show x=PV.str z from r1]
   unfold fg
   rw[ih r2 e1];rfl
  | _=>cases e
structure OpS where
 f:Str→List PV→MH→Out PV
 p:Str→List D→Option D
 fr:Bool
 ok:∀{q h L O z as xs d},Bd h O→Vws q h L O as xs→p z as=some d→Gv q h O fr (f z xs h) d
def bx:OpS where
 f:=cf
 p:=fun z as=>match as with
  | [.lst ds]=>(match d8 ds with
   | some ts=>if JoinOk z ts=true then some (.str (Txt.join z ts)) else none
   | none=>none)
  | _=>none
 fr:=true
 ok {q h L O z as xs d} bd w e:=by
  match as,e with
  | [.lst ds],e =>
   dsimp only at e
   cases es:d8 ds with
   | none=>rw[es] at e;cases e
   | some ts =>
    rw[es] at e
    dsimp only at e
    by_cases hj:JoinOk z ts=true
    ·rw[if_pos hj] at e
     cases e
     obtain ⟨x,rfl,a⟩:=vws1 w
     obtain ⟨n,xs,rfl,g,r⟩:=a.lst
     have e2:cf z [.loc n] h=.ok (.str (Txt.join z ts)) h:=by
      simp only[cf,g,nZ r es]
      rw[if_pos hj]
     rw[e2]
     exact gv0 rfl fun _ _ e=>by cases e
    ·rw[if_neg hj] at e;cases e
def jO:OpS where
 f:=gU
 p:=fun z as=>match as with
  | [.int i]=>if PadOk i=true then some (.str (Txt.zfill z i)) else none
  | _=>none
 fr:=true
 ok {q h L O z as xs d} bd w e:=by
  match as,e with
  | [.int i],e =>
   dsimp only at e
   by_cases hj:PadOk i=true
   ·rw[if_pos hj] at e
    cases e
    obtain ⟨x,rfl,a⟩:=vws1 w
    rw[a.int]
    show Gv q h O true (if PadOk i=true then .ok (.str (Txt.zfill z i)) h else .bad) _
    rw[if_pos hj]
    exact gv0 rfl fun _ _ e=>by cases e
   ·rw[if_neg hj] at e;cases e
def oFs (c:Str):Op1 where
 m:=fFs c
 p:=fun a=>match a with
  | .int i=>if i.natAbs.log2<1920∧(Str.empty++(toString i:Str)).length≤sizeLine∧(Str.empty++(toString i:Str)++c).length≤sizeLine then some (.str (Str.empty++(toString i:Str)++c)) else none
  | _=>none
 fr:=true
 ok {q h L O a x d} bd w e:=by
  cases a with
  | int i =>
   dsimp only at e
   by_cases z:i.natAbs.log2<1920∧(Str.empty++(toString i:Str)).length≤sizeLine∧(Str.empty++(toString i:Str)++c).length≤sizeLine
   ·rw[if_pos z] at e
    cases e
    rw[w.int]
    show Gv q h O true (if i.natAbs.log2<1920∧(Str.empty++(toString i:Str)).length≤sizeLine∧(Str.empty++(toString i:Str)++c).length≤sizeLine then .ok (.str (Str.empty++(toString i:Str)++c)) h else .bad) _
    rw[if_pos z]
    exact gv0 rfl fun _ _ e=>by cases e
   ·rw[if_neg z] at e;cases e
  | _=>cases e
section
variable {ws:List Nat}
def xSm (o:OpS) (a:Xe ws) (as:Xs ws):Xe ws where
 m:=mSm o.f a.m as.m
 p:=fun env s=>(a.p env s).bind fun x s1=>match x with
  | .str z=>(as.p env s1).bind fun y s2=>.of (o.p z y) s2
  | _=>.bad
 fz:=true
 fr:=o.fr
 ok {q h L B O σ env s} c:=by
  refine (a.ok c).bind fun x v h1 s1 k1 p1 ⟨w,_,_⟩=>?_
  cases x with
  | str z =>
   have c1:=c.kb k1 p1
   rw[w.str]
   dsimp only
   refine (as.ok c1).bind fun y vs h2 s2 k2 p2 ⟨w2,_⟩=>?_
   cases e:o.p z y with
   | none=>trivial
   | some d =>
    obtain ⟨u,g,e1,r,f⟩:=o.ok (c1.kb k2 p2).bd w2 e
    exact give (Nat.le_trans k1.len k2.len) p2 ⟨u,g,by rw[e1];rfl,r,f⟩
  | _=>trivial
def xPar (i j:Nat) (a:Xs ws) (hi:ws.contains i=false:=by exact ys rfl) (hj:ws.contains j=false:=by exact ys rfl) (hz:a.fz=true:=by exact ys rfl):Xd ws where
 m:=mPar i j a.m
 p:=fun env s=>(a.p env s).go env fun ds env s=>match ds with
  | [x,y]=>.nx ((env.set i (some x)).set j (some y)) s
  | _=>.bad
 fr:=true
 ok {q h L B O σ env s} c d:=by
  refine SOk.ex (f:=fun vs σ h=>match vs with | [v,w]=>.nx ((σ.set i (some v)).set j (some w)) h | _=>.bad) (g:=fun ds env s=>match ds with | [x,y]=>.nx ((env.set i (some x)).set j (some y)) s | _=>.bad) c d (a.ok c) fun xs vs h1 s1 kb c1 ⟨_,z⟩=>?_
  have z:=z hz
  match xs,z with
  | [],_=>trivial
  | [_],_=>trivial
  | [x,y],z =>
   obtain ⟨v,t,rfl,rv,t2⟩:=z
   obtain ⟨w,t3,rfl,rw',rfl⟩:=t2
   obtain ⟨a1,b1⟩:=c1.sr.set (i:=i) (fun z=>by simp[z] at hi) rv
   obtain ⟨a2,b2⟩:=a1.set (i:=j) (fun z=>by simp[z] at hj) rw'
   exact ⟨_,h1,rfl,O,Stp.refl _ _ _ _,⟨c1.bd,c1.sub,c1.bb,c1.pb,c1.hL,c1.pen,a2⟩,(d.keep b1).keep b2⟩
  | _::_::_::_,_=>trivial
variable {env:DEnv} {s:Pen}
@[simp] theorem ec {o:OpS} {a:Xe ws} {as:Xs ws}:(xSm o a as).p env s=(a.p env s).bind fun x s1=>match x with
  | .str z=>(as.p env s1).bind fun y s2=>.of (o.p z y) s2
  | _=>.bad:=rfl
@[simp] theorem xPar_p {i j:Nat} {a:Xs ws} {hi:ws.contains i=false} {hj:ws.contains j=false} {hz:a.fz=true}:(xPar i j a hi hj hz).p env s=(a.p env s).go env fun ds env s=>match ds with
  | [x,y]=>.nx ((env.set i (some x)).set j (some y)) s
  | _=>.bad:=rfl
@[simp] theorem ox {i j:Int}:aw.p (.int i) (.int j)=some (.int (i+j)):=rfl
@[simp] theorem gB {x y:List D}:aw.p (.lst x) (.lst y)=oAdd.p (.lst x) (.lst y):=rfl
theorem bt {x y:Str} (h:x.length+y.length≤sizeLine):aw.p (.str x) (.str y)=some (.str (x++y)):=by
 show (if x.length+y.length≤sizeLine then _ else _)=_
 rw[if_pos h]
end
end
end PU
namespace Law
open PySem PySem.Spec PyProof.Rows L2 MM
set_option maxHeartbeats 4000000
noncomputable section
def m_is_whole:Mst:=(mRet (gN (mUn (fIsi ["int"]) (mVar 0)) (jh (mUn (fIsi ["bool"]) (mVar 0)))))
def dE:List PV→MH→Out PV:=mDef 1 1 m_is_whole
def m_greatest_shared:Mst:=(mSeq (mWh (mB (mBin opNe (mVar 1) (mC (.int 0)))) (mSeq (mSet 2 (mBin opMod (mVar 0) (mVar 1)))
 (mSeq (mSet 0 (mVar 1))
 (mSet 1 (mVar 2)))))
 (mRet (mVar 0)))
def ci:List PV→MH→Out PV:=mDef 3 2 m_greatest_shared
def m_number_of:Mst:=(mSeq (mIf (mOr (mNot (mB (aq dE (ac (mVar 0) mNil)))) (mNot (mB (aq dE (ac (mVar 1) mNil))))) (eQ "NoNumber" (ac (mC (.str "a number is made of two whole numbers")) mNil)) mSkip)
 (mSeq (mIf (mB (mBin opEq (mVar 1) (mC (.int 0)))) (eQ "NoNumber" (ac (mC (.str "nothing is told over nought")) mNil)) mSkip)
 (mSeq (mSet 2 (aq ci (ac (mCB fAbs (ac (mVar 0) mNil)) (ac (mCB fAbs (ac (mVar 1) mNil)) mNil))))
 (mSeq (mIf (mB (mBin opLt (mVar 1) (mC (.int 0)))) (mSet 2 (mUn opNeg (mVar 2))) mSkip)
 (mRet (mTup (ac (mBin opFd (mVar 0) (mVar 2)) (ac (mBin opFd (mVar 1) (mVar 2)) mNil))))))))
def eB:List PV→MH→Out PV:=mDef 3 2 m_number_of
def m_times:Mst:=(mRet (aq eB (ac (mBin opMul (mBin opIx (mVar 0) (mC (.int 0))) (mBin opIx (mVar 1) (mC (.int 0)))) (ac (mBin opMul (mBin opIx (mVar 0) (mC (.int 1))) (mBin opIx (mVar 1) (mC (.int 1)))) mNil))))
def iw:List PV→MH→Out PV:=mDef 2 2 m_times
def m_show_whole:Mst:=(mSeq (mSet 1 (mC (.str "")))
 (mSeq (mWh (mB (mBin opGe (mVar 0) (mBin opPow (mC (.int 10)) (mC (.int 60))))) (mSeq (mSet 1 (mBin opAdd (mSm gU (mCB fStr (ac (mBin opMod (mVar 0) (mBin opPow (mC (.int 10)) (mC (.int 60)))) mNil)) (ac (mC (.int 60)) mNil)) (mVar 1)))
 (mSet 0 (mBin opFd (mVar 0) (mBin opPow (mC (.int 10)) (mC (.int 60)))))))
 (mRet (mBin opAdd (mCB fStr (ac (mVar 0) mNil)) (mVar 1)))))
def cQ:List PV→MH→Out PV:=mDef 2 1 m_show_whole
def m_show_number:Mst:=(mSeq (mSet 1 (aq cQ (ac (mCB fAbs (ac (mBin opIx (mVar 0) (mC (.int 0))) mNil)) mNil)))
 (mSeq (mIf (mB (mBin opLt (mBin opIx (mVar 0) (mC (.int 0))) (mC (.int 0)))) (mSet 1 (mBin opAdd (mC (.str "-")) (mVar 1))) mSkip)
 (mSeq (mIf (mB (mBin opNe (mBin opIx (mVar 0) (mC (.int 1))) (mC (.int 1)))) (mSet 1 (mBin opAdd (mBin opAdd (mVar 1) (mC (.str "/"))) (aq cQ (ac (mBin opIx (mVar 0) (mC (.int 1))) mNil)))) mSkip)
 (mRet (mVar 1)))))
def bc:List PV→MH→Out PV:=mDef 2 1 m_show_number
def m_show_parts:Mst:=(mRet (bZ 2 [] (mItS (mVar 0)) (gTp (gCn (gNm 0) (gCn (gNm 1) gNl)) 2) mTrue (mBin opAdd (mBin opAdd (mCB fStr (ac (mVar 0) mNil)) (mC (.str "="))) (aq bc (ac (mVar 1) mNil)))))
def bQ:List PV→MH→Out PV:=mDef 1 1 m_show_parts
def m_show_sheet:Mst:=(mRet (mSm cf (mC (.str "\n")) (ac (bZ 2 [] (mItE (ac (mBin opIx (mVar 0) (mC (.int 1))) mNil)) (gTp (gCn (gNm 0) (gCn (gNm 1) gNl)) 2) mTrue (mSm cf (mC (.str " ")) (ac (mBin opAdd (mLst (ac (mUn (fFs ":") (mVar 0)) mNil)) (aq bQ (ac (mVar 1) mNil))) mNil))) mNil)))
def cM:List PV→MH→Out PV:=mDef 1 1 m_show_sheet
def m_show_rows:Mst:=(mRet (mSm cf (mC (.str "\n")) (ac (bZ 2 [] (mItS (mVar 0)) (gTp (gCn (gNm 0) (gCn (gNm 1) gNl)) 2) mTrue (mSm cf (mC (.str " ")) (ac (mBin opAdd (aq bQ (ac (mVar 0) mNil)) (mLst (ac (mC (.str "|")) (ac (aq bc (ac (mVar 1) mNil)) mNil)))) mNil))) mNil)))
def cn:List PV→MH→Out PV:=mDef 1 1 m_show_rows
def m_l_pen:Mst:=(mSeq (mSet 2 (mBin opAdd (mBin opMul (mC (.int 7919)) (mVar 1)) (mC (.int 11))))
 (mSeq (mIf (mB (mBin opLt (mVar 1) (mCB fMin (ac (mCB fLen (ac (mVar 0) mNil)) (ac (mC (.int 63)) mNil))))) (mSet 2 (mBin opIx (mVar 0) (mVar 1))) (mIf (mB (mBin opGt (mCB fLen (ac (mVar 0) mNil)) (mC (.int 0)))) (mSet 2 (mBin opAdd (mBin opMod (mBin opIx (mVar 0) (mBin opMod (mVar 1) (mCB fMin (ac (mCB fLen (ac (mVar 0) mNil)) (ac (mC (.int 63)) mNil))))) (mBin opPow (mC (.int 10)) (mC (.int 15)))) (mBin opMul (mC (.int 48271)) (mVar 1)))) mSkip))
 (mSeq (mIf (mB (mBin opGe (mCB fAbs (ac (mVar 2) mNil)) (mBin opPow (mC (.int 10)) (mC (.int 18))))) (mRet (mLst (ac (mC (.int 1)) (ac (mCB fAbs (ac (mVar 2) mNil)) (ac (mC (.int 0)) mNil))))) mSkip)
 (mRet (mLst (ac (mC (.int 0)) (ac (mBin opAdd (mBin opMod (mVar 2) (mC (.int 2147483587))) (mBin opMul (mC (.int 40009)) (mVar 1))) (ac (mC (.int 0)) mNil))))))))
def cv:List PV→MH→Out PV:=mDef 3 2 m_l_pen
def m_l_draw:Mst:=(mSeq (mAsg (mBin opAdd (mBin opIx (mVar 0) (mC (.int 2))) (mC (.int 1))) (gSb (mVar 0) (mC (.int 2))))
 (mSeq (mIf (mB (mBin opEq (mBin opIx (mVar 0) (mC (.int 0))) (mC (.int 1)))) (mSeq (mSet 3 (mBin opMod (mBin opIx (mVar 0) (mC (.int 1))) (mVar 1)))
 (mSeq (mAsg (mBin opFd (mBin opIx (mVar 0) (mC (.int 1))) (mVar 1)) (gSb (mVar 0) (mC (.int 1))))
 (mRet (mVar 3)))) mSkip)
 (mSeq (mSet 2 (mBin opMod (mBin opMul (mBin opAdd (mBin opAdd (mBin opIx (mVar 0) (mC (.int 1))) (mBin opMul (mC (.int 40503)) (mBin opIx (mVar 0) (mC (.int 2))))) (mC (.int 1))) (mC (.int 48271))) (mC (.int 2147483647))))
 (mSeq (mSet 2 (mBin opMod (mBin opMul (mVar 2) (mBin opAdd (mBin opAdd (mBin opMod (mVar 2) (mC (.int 65521))) (mBin opIx (mVar 0) (mC (.int 2)))) (mC (.int 3)))) (mC (.int 2147483629))))
 (mRet (mBin opMod (mBin opFd (mBin opMod (mBin opMul (mVar 2) (mBin opAdd (mBin opMod (mVar 2) (mC (.int 8191))) (mC (.int 7)))) (mC (.int 2147483563))) (mC (.int 64))) (mVar 1)))))))
def av:List PV→MH→Out PV:=mDef 4 2 m_l_draw
def m_l_lowest:Mst:=(mSeq (mPar 2 3 (ac (mCB fAbs (ac (mVar 0) mNil)) (ac (mCB fAbs (ac (mVar 1) mNil)) mNil)))
 (mSeq (mWh (mB (mBin opGt (mVar 3) (mC (.int 0)))) (mPar 2 3 (ac (mVar 3) (ac (mBin opMod (mVar 2) (mVar 3)) mNil))))
 (mSeq (mIf (mB (mBin opLt (mVar 1) (mC (.int 0)))) (mSet 2 (mUn opNeg (mVar 2))) mSkip)
 (mRet (mTup (ac (mBin opFd (mVar 0) (mVar 2)) (ac (mBin opFd (mVar 1) (mVar 2)) mNil)))))))
def eY:List PV→MH→Out PV:=mDef 4 2 m_l_lowest
def m_l_number:Mst:=(mSeq (mSet 1 (aq av (ac (mVar 0) (ac (mC (.int 4)) mNil))))
 (mSeq (mSet 2 (mBin opAdd (mC (.int 1)) (aq av (ac (mVar 0) (ac (mBin opIx (mLst (ac (mC (.int 6)) (ac (mC (.int 6)) (ac (mC (.int 12)) (ac (mC (.int 999999)) mNil))))) (mVar 1)) mNil)))))
 (mSeq (mSet 3 (mBin opAdd (mC (.int 1)) (aq av (ac (mVar 0) (ac (mBin opIx (mLst (ac (mC (.int 1)) (ac (mC (.int 1)) (ac (mC (.int 5)) (ac (mC (.int 999999)) mNil))))) (mVar 1)) mNil)))))
 (mSeq (mIf (mB (mBin opEq (aq av (ac (mVar 0) (ac (mC (.int 2)) mNil))) (mC (.int 1)))) (mSet 2 (mBin opSub (mC (.int 0)) (mVar 2))) mSkip)
 (mRet (aq eY (ac (mVar 2) (ac (mVar 3) mNil))))))))
def bq:List PV→MH→Out PV:=mDef 4 1 m_l_number
def m_l_parts:Mst:=(mSeq (mSet 2 (mBin opAdd (mC (.int 1)) (aq av (ac (mVar 0) (ac (mC (.int 4)) mNil)))))
 (mRet (mCB fTuple (ac (bZ 1 [0,2] (ca (ac (mVar 1) mNil)) (gNm 0) (mB (mBin opEq (aq av (ac (mVar 1) (ac (mVar 2) mNil))) (mC (.int 0)))) (mTup (ac (mVar 0) (ac (aq bq (ac (mVar 1) mNil)) mNil)))) mNil))))
def dk:List PV→MH→Out PV:=mDef 3 2 m_l_parts
def m_l_sheet:Mst:=(mSeq (mSet 1 (mBin opIx (mLst (ac (aq av (ac (mVar 0) (ac (mC (.int 13)) mNil))) (ac (aq av (ac (mVar 0) (ac (mC (.int 4)) mNil))) mNil))) (aq av (ac (mVar 0) (ac (mC (.int 2)) mNil)))))
 (mRet (mTup (ac (mVar 1) (ac (mCB fTuple (ac (bZ 1 [0,1] (ca (ac (mVar 1) mNil)) (gNm 0) mTrue (aq dk (ac (mVar 1) (ac (mVar 2) mNil)))) mNil)) mNil)))))
def fv:List PV→MH→Out PV:=mDef 2 1 m_l_sheet
def m_l_rows:Mst:=(mSeq (mSet 2 (mBin opIx (mLst (ac (aq av (ac (mVar 0) (ac (mC (.int 6)) mNil))) (ac (mC (.int 20)) (ac (aq av (ac (mVar 0) (ac (mC (.int 21)) mNil))) mNil)))) (aq av (ac (mVar 0) (ac (mC (.int 3)) mNil)))))
 (mSeq (mSet 3 (mLst mNil))
 (mSeq (mFor (ca (ac (mVar 2) mNil)) (gNm 4) (mSeq (mSet 5 (aq bq (ac (mVar 0) mNil)))
 (mSeq (mIf (mB (mBin opEq (aq av (ac (mVar 0) (ac (mC (.int 4)) mNil))) (mC (.int 0)))) (mSet 5 (mTup (ac (mC (.int 0)) (ac (mC (.int 1)) mNil)))) mSkip)
 (fo (mMt eK (mVar 3) (ac (mTup (ac (aq dk (ac (mVar 0) (ac (mVar 1) mNil))) (ac (mVar 5) mNil))) mNil))))))
 (mRet (mVar 3)))))
def gG:List PV→MH→Out PV:=mDef 6 2 m_l_rows
def m_l_text:Mst:=(mSeq (mIf (mB (mBin opEq (mBin opIx (mVar 0) (mC (.int 1))) (mC (.int 1)))) (mRet (mCB fStr (ac (mBin opIx (mVar 0) (mC (.int 0))) mNil))) mSkip)
 (mRet (mBin opAdd (mBin opAdd (mCB fStr (ac (mBin opIx (mVar 0) (mC (.int 0))) mNil)) (mC (.str "/"))) (mCB fStr (ac (mBin opIx (mVar 0) (mC (.int 1))) mNil)))))
def cu:List PV→MH→Out PV:=mDef 1 1 m_l_text
def m_l_words:Mst:=(mRet (bZ 2 [] (mItS (mVar 0)) (gTp (gCn (gNm 0) (gCn (gNm 1) gNl)) 2) mTrue (mBin opAdd (mBin opAdd (mCB fStr (ac (mVar 0) mNil)) (mC (.str "="))) (aq cu (ac (mVar 1) mNil)))))
def dm:List PV→MH→Out PV:=mDef 1 1 m_l_words
def m_l_sheet_lines:Mst:=(mRet (bZ 1 [0] (ca (ac (mBin opIx (mVar 0) (mC (.int 0))) mNil)) (gNm 0) mTrue (mSm cf (mC (.str " ")) (ac (mBin opAdd (mLst (ac (mBin opAdd (mCB fStr (ac (mVar 0) mNil)) (mC (.str ":"))) mNil)) (aq dm (ac (mBin opIx (mBin opIx (mVar 1) (mC (.int 1))) (mVar 0)) mNil))) mNil))))
def cO:List PV→MH→Out PV:=mDef 1 1 m_l_sheet_lines
def m_l_rows_lines:Mst:=(mRet (bZ 2 [] (mItS (mVar 0)) (gTp (gCn (gNm 0) (gCn (gNm 1) gNl)) 2) mTrue (mSm cf (mC (.str " ")) (ac (mBin opAdd (aq dm (ac (mVar 0) mNil)) (mLst (ac (mC (.str "|")) (ac (aq cu (ac (mVar 1) mNil)) mNil)))) mNil))))
def cW:List PV→MH→Out PV:=mDef 1 1 m_l_rows_lines
def m_l_is_text:Mst:=(mRet (gN (mUn (fIsi ["str"]) (mVar 0)) (mBin opEq (mVar 0) (mVar 1))))
def ck:List PV→MH→Out PV:=mDef 2 2 m_l_is_text
def m_law:Mst:=(mSeq (mFor (ca (ac (mC (.int 2)) mNil)) (gNm 1) (mSeq (mSet 2 (aq cv (ac (mVar 0) (ac (mVar 1) mNil))))
 (mSeq (mSet 3 (mTup (ac (mC (.int 1)) (ac (mC (.int 1)) mNil))))
 (mSeq (mFor (ca (ac (aq av (ac (mVar 2) (ac (mC (.int 40)) mNil))) mNil)) (gNm 4) (mSet 3 (aq iw (ac (mVar 3) (ac (aq bq (ac (mVar 2) mNil)) mNil)))))
 (mSeq (mFor (mItS (mBin opAdd (mLst (ac (mTup (ac (mC (.int 0)) (ac (mC (.int 1)) mNil))) (ac (mTup (ac (mC (.int 1)) (ac (mC (.int 1)) mNil))) (ac (mTup (ac (mUn opNeg (mC (.int 1))) (ac (mC (.int 1)) mNil))) (ac (mVar 3) mNil))))) (bZ 1 [2] (ca (ac (mC (.int 6)) mNil)) (gNm 0) mTrue (aq bq (ac (mVar 1) mNil))))) (gNm 5) (mIf (mNot (mB (aq ck (ac (aq bc (ac (mVar 5) mNil)) (ac (aq cu (ac (mVar 5) mNil)) mNil))))) (mRet (mC (.bl false))) mSkip))
 (mSeq (mSet 6 (aq fv (ac (mVar 2) mNil)))
 (mSeq (mSet 7 (mSm cf (mC (.str "\n")) (ac (aq cO (ac (mVar 6) mNil)) mNil)))
 (mSeq (mIf (mOr (mNot (mB (aq ck (ac (aq cM (ac (mVar 6) mNil)) (ac (mVar 7) mNil))))) (mB (mBin opNe (aq cM (ac (mVar 6) mNil)) (mVar 7)))) (mRet (mC (.bl false))) mSkip)
 (mSeq (mSet 8 (aq gG (ac (mVar 2) (ac (aq av (ac (mVar 2) (ac (mC (.int 13)) mNil))) mNil))))
 (mSeq (mSet 7 (mSm cf (mC (.str "\n")) (ac (aq cW (ac (mVar 8) mNil)) mNil)))
 (mSeq (mSet 9 (mCB fList (ac (mVar 8) mNil)))
 (mSeq (mIf (mOr (mNot (mB (aq ck (ac (aq cn (ac (mVar 9) mNil)) (ac (mVar 7) mNil))))) (mB (mBin opNe (mVar 9) (mVar 8)))) (mRet (mC (.bl false))) mSkip)
 (mSeq (fo (mMt fS (mVar 9) mNil))
 (mIf (mOr (mB (mBin opNe (aq cn (ac (mVar 9) mNil)) (mC (.str "")))) (mB (mBin opNe (aq cn (ac (mVar 8) mNil)) (mVar 7)))) (mRet (mC (.bl false))) mSkip))))))))))))))
 (mRet (mC (.bl true))))
def f_law:List PV→MH→Out PV:=mDef 10 1 m_law
end
end Law
namespace Law
open PySem MM PU
open L2 (ixN atI CPow)
set_option maxHeartbeats 4000000
noncomputable section
def e9:Xd []:=(xRet (lx (xUn (oIsi ["int"]) (xVar 0)) (xNotV (xUn (oIsi ["bool"]) (xVar 0)))))
def dD:Fn:=xDef 1 1 e9
theorem ky {ds:List D} {s:Pen} (h:ds.length=1):dD.p ds s=(e9.p (dSt 1 ds) s).fin:=aQ h
def cg:Xd []:=(xSeq (xWh 4000 (xB (xBin oNe (xVar 1) (xC (.int 0)))) (xSeq (xSet 2 (xBin oMod (xVar 0) (xVar 1)))
 (xSeq (xSet 0 (xVar 1))
 (xSet 1 (xVar 2)))) eR)
 (xRet (xVar 0)))
def bv:Fn:=xDef 3 2 cg
theorem fB {ds:List D} {s:Pen} (h:ds.length=2):bv.p ds s=(cg.p (dSt 3 ds) s).fin:=aQ h
def eI:Xd []:=(xSeq (xIf (xOr (xNot (xB (am dD (ae (xVar 0) xNil)))) (xNot (xB (am dD (ae (xVar 1) xNil))))) (kj "NoNumber" (ae (xC (.str "a number is made of two whole numbers")) xNil)) xSkip)
 (xSeq (xIf (xB (xBin oEq (xVar 1) (xC (.int 0)))) (kj "NoNumber" (ae (xC (.str "nothing is told over nought")) xNil)) xSkip)
 (xSeq (xSet 2 (am bv (ae (xCb cAbs (ae (xVar 0) xNil)) (ae (xCb cAbs (ae (xVar 1) xNil)) xNil))))
 (xSeq (xIf (xB (xBin oLt (xVar 1) (xC (.int 0)))) (xSet 2 (xUn oNeg (xVar 2))) xSkip)
 (xRet (xTup (ae (xBin oFd (xVar 0) (xVar 2)) (ae (xBin oFd (xVar 1) (xVar 2)) xNil))))))))
def eG:Fn:=xDef 3 2 eI
theorem jC {ds:List D} {s:Pen} (h:ds.length=2):eG.p ds s=(eI.p (dSt 3 ds) s).fin:=aQ h
def ie:Xd []:=(xRet (am eG (ae (xBin oMul (xBin oIx (xVar 0) (xC (.int 0))) (xBin oIx (xVar 1) (xC (.int 0)))) (ae (xBin oMul (xBin oIx (xVar 0) (xC (.int 1))) (xBin oIx (xVar 1) (xC (.int 1)))) xNil))))
def eN:Fn:=xDef 2 2 ie
theorem nr {ds:List D} {s:Pen} (h:ds.length=2):eN.p ds s=(ie.p (dSt 2 ds) s).fin:=aQ h
def dU:Xd []:=(xSeq (xSet 1 (xC (.str "")))
 (xSeq (xWh 4000 (xB (xBin oGe (xVar 0) (xBin oPow (xC (.int 10)) (xC (.int 60))))) (xSeq (xSet 1 (xBin aw (xSm jO (xCb cStr (ae (xBin oMod (xVar 0) (xBin oPow (xC (.int 10)) (xC (.int 60)))) xNil)) (ae (xC (.int 60)) xNil)) (xVar 1)))
 (xSet 0 (xBin oFd (xVar 0) (xBin oPow (xC (.int 10)) (xC (.int 60)))))) eR)
 (xRet (xBin aw (xCb cStr (ae (xVar 0) xNil)) (xVar 1)))))
def cR:Fn:=xDef 2 1 dU
theorem i4 {ds:List D} {s:Pen} (h:ds.length=1):cR.p ds s=(dU.p (dSt 2 ds) s).fin:=aQ h
def du:Xd []:=(xSeq (xSet 1 (am cR (ae (xCb cAbs (ae (xBin oIx (xVar 0) (xC (.int 0))) xNil)) xNil)))
 (xSeq (xIf (xB (xBin oLt (xBin oIx (xVar 0) (xC (.int 0))) (xC (.int 0)))) (xSet 1 (xBin aw (xC (.str "-")) (xVar 1))) xSkip)
 (xSeq (xIf (xB (xBin oNe (xBin oIx (xVar 0) (xC (.int 1))) (xC (.int 1)))) (xSet 1 (xBin aw (xBin aw (xVar 1) (xC (.str "/"))) (am cR (ae (xBin oIx (xVar 0) (xC (.int 1))) xNil)))) xSkip)
 (xRet (xVar 1)))))
def bp:Fn:=xDef 2 1 du
theorem ix {ds:List D} {s:Pen} (h:ds.length=1):bp.p ds s=(du.p (dSt 2 ds) s).fin:=aQ h
def dW:Xd []:=(xRet (bE 2 [] (xItS (xVar 0)) (ws':=[]) (xGp (xGc (xNm 0) (xGc (xNm 1) xGl)) 2) xTrue (xBin aw (xBin aw (xCb cStr (ae (xVar 0) xNil)) (xC (.str "="))) (am bp (ae (xVar 1) xNil)))))
def cD:Fn:=xDef 1 1 dW
theorem i0 {ds:List D} {s:Pen} (h:ds.length=1):cD.p ds s=(dW.p (dSt 1 ds) s).fin:=aQ h
def dO:Xd []:=(xRet (xSm bx (xC (.str "\n")) (ae (bE 2 [] (xItA iE (ae (xBin oIx (xVar 0) (xC (.int 1))) xNil)) (ws':=[]) (xGp (xGc (xNm 0) (xGc (xNm 1) xGl)) 2) xTrue (xSm bx (xC (.str " ")) (ae (xBin aw (xLst (ae (xUn (oFs ":") (xVar 0)) xNil)) (am cD (ae (xVar 1) xNil))) xNil))) xNil)))
def cC:Fn:=xDef 1 1 dO
theorem iZ {ds:List D} {s:Pen} (h:ds.length=1):cC.p ds s=(dO.p (dSt 1 ds) s).fin:=aQ h
def eD:Xd []:=(xRet (xSm bx (xC (.str "\n")) (ae (bE 2 [] (xItS (xVar 0)) (ws':=[]) (xGp (xGc (xNm 0) (xGc (xNm 1) xGl)) 2) xTrue (xSm bx (xC (.str " ")) (ae (xBin aw (am cD (ae (xVar 0) xNil)) (xLst (ae (xC (.str "|")) (ae (am bp (ae (xVar 1) xNil)) xNil)))) xNil))) xNil)))
def bJ:Fn:=xDef 1 1 eD
theorem jU {ds:List D} {s:Pen} (h:ds.length=1):bJ.p ds s=(eD.p (dSt 1 ds) s).fin:=aQ h
theorem iz {h:MH} {p:Nat} {o:MO} (hp:p<h.length):(h.set p o)[p]?=some o:=List.getElem?_set_self hp
theorem ix2:ixN 3 2=some 2:=kL (n:=3) (m:=2) (by decide)
theorem ix1:ixN 3 1=some 1:=kL (n:=3) (m:=1) (by decide)
theorem eL (s:Pen) (size:Int) (hs:0<size) (hl:size.natAbs.log2<9000):∃x:Int × Int,(0≤x.1∧x.1<size)∧∀(h:MH) (p:Nat),bn h p s→av [.loc p,.int size] h=.ok (.int x.1) (h.set p (.lst [.int s.1,.int x.2,.int (s.2.2+1)])):=by
 obtain ⟨m,c,t⟩:=s
 have hs0:size≠0:=by omega
 have st:∀n:Int,0≤n.fmod size∧n.fmod size<size:=fun n=>by
  rw[Int.fmod_eq_emod_of_nonneg n (by omega)]
  exact ⟨Int.emod_nonneg n hs0,Int.emod_lt_of_pos n hs⟩
 by_cases hm:m=1
 ·subst hm
  refine ⟨(c.fmod size,c.fdiv size),st c,fun h p e=>?_⟩
  have e:h[p]?=some (.lst [.int 1,.int c,.int t]):=e
  have hp:p<h.length:=(List.getElem?_eq_some_iff.mp e).1
  have e2:(h.set p (.lst [.int 1,.int c,.int (t+1)]))[p]?=some (.lst [.int 1,.int c,.int (t+1)]):=iz hp
  unfold av
  refine (fX (by rfl)).trans ?_
  unfold m_l_draw
  simp[be,List.replicate,fk e,gy e,ix2,fk e2,db hs0,k8 hs0 hl,gy e2,ix1]
 ·have big:∀n k:Int,0<k→0≤n.fmod k∧n.fmod k<k:=fun n k hk=>by
   rw[Int.fmod_eq_emod_of_nonneg n (by omega)]
   exact ⟨Int.emod_nonneg n (by omega),Int.emod_lt_of_pos n hk⟩
  generalize ea:((c+40503 * (t+1)+1) * 48271).fmod 2147483647=A
  have b1:=big ((c+40503 * (t+1)+1) * 48271) 2147483647 (by decide)
  rw[ea] at b1
  generalize eb:(A * (A.fmod 65521+(t+1)+3)).fmod 2147483629=C
  have b2:=big (A * (A.fmod 65521+(t+1)+3)) 2147483629 (by decide)
  rw[eb] at b2
  refine ⟨((((C * (C.fmod 8191+7)).fmod 2147483563).fdiv 64).fmod size,c),st _,fun h p e=>?_⟩
  have e:h[p]?=some (.lst [.int m,.int c,.int t]):=e
  have hp:p<h.length:=(List.getElem?_eq_some_iff.mp e).1
  have e2:(h.set p (.lst [.int m,.int c,.int (t+1)]))[p]?=some (.lst [.int m,.int c,.int (t+1)]):=iz hp
  have c1:-(2 ^ 64)<A∧A<2 ^ 64:=by omega
  have c2:-(2 ^ 64)<C∧C<2 ^ 64:=by omega
  have k1:∀{i:Int} {h:MH},opMul (.int 40503) (.int i) h=.ok (.int (40503 * i)) h:=dM (by decide)
  have k2:∀{i:Int} {h:MH},opMul (.int i) (.int 48271) h=.ok (.int (i * 48271)) h:=opMul_r (by decide)
  unfold av
  refine (fX (by rfl)).trans ?_
  unfold m_l_draw
  simp[be,List.replicate,fk e,gy e,ix2,fk e2,hm,k1,k2,db,ea,dM c1,eb,dM c2,k8 (show (64:Int)≠0 by decide) (show (64:Int).natAbs.log2<9000 by decide +kernel),db hs0]
open Classical in
noncomputable def gg (s:Pen) (size:Int):Int × Int:=if z:0<size∧size.natAbs.log2<9000 then (eL s size z.1 z.2).choose else (0,0)
def hU (ds:List D):Option Int:=match ds with
 | [.pen,.int i]=>some i
 | _=>none
theorem lm {ds:List D} {i:Int} (e:hU ds=some i):ds=[.pen,.int i]:=by
 unfold hU at e
 split at e
 ·cases e;rfl
 ·cases e
open Classical in
noncomputable def aB:Fn where
 m:=av
 p:=fun ds s=>match hU ds with
  | some size=>if 0<size∧size.natAbs.log2<9000 then .ok (.int (gg s size).1) (s.1,(gg s size).2,s.2.2+1) else .bad
  | none=>.bad
 fr:=true
 ok {q h O vs ds s} bd hq pn r:=by
  cases e:hU ds with
  | none=>trivial
  | some size =>
   have:=lm e
   subst this
   dsimp only
   by_cases z:0<size∧size.natAbs.log2<9000
   ·rw[if_pos z]
    obtain ⟨x,t,rfl,hx,y,t',rfl,hy,ht⟩:=r
    rw[show x=PV.loc q from hx,show y=PV.int size from hy,show t'=[] from ht]
    have k:=(eL s size z.1 z.2).choose_spec.2 h q pn
    have ed:gg s size=(eL s size z.1 z.2).choose:=by unfold gg;rw[dif_pos z]
    rw[←ed] at k
    refine ⟨_,_,k,⟨by simp,fun n hn hp=>List.getElem?_set_ne (Ne.symm hp)⟩,iz (aG pn),rfl,fun _ ds e=>by cases e⟩
   ·rw[if_neg z];trivial
open Classical in
theorem bj {s:Pen} {size:Int} (hs:0<size) (hl:size≤2000000000):∃d s',0≤d∧d<size∧aB.p [.pen,.int size] s=.ok (.int d) s':=by
 have hlog:size.natAbs.log2<9000:=by
  have h1:size.natAbs≤2000000000:=by omega
  have h2:size.natAbs.log2<31:=(Nat.log2_lt (by omega)).mpr (by omega)
  omega
 have z:0<size∧size.natAbs.log2<9000:=⟨hs,hlog⟩
 have ed:gg s size=(eL s size z.1 z.2).choose:=by unfold gg;rw[dif_pos z]
 have k:=(eL s size z.1 z.2).choose_spec.1
 rw[←ed] at k
 exact ⟨_,_,k.1,k.2,by show (if 0<size∧size.natAbs.log2<9000 then _ else _)=_;rw[if_pos z]⟩
def fj:Xd []:=(xSeq (xPar 2 3 (ae (xCb cAbs (ae (xVar 0) xNil)) (ae (xCb cAbs (ae (xVar 1) xNil)) xNil)))
 (xSeq (xWh 4000 (xB (xBin oGt (xVar 3) (xC (.int 0)))) (xPar 2 3 (ae (xVar 3) (ae (xBin oMod (xVar 2) (xVar 3)) xNil))) eR)
 (xSeq (xIf (xB (xBin oLt (xVar 1) (xC (.int 0)))) (xSet 2 (xUn oNeg (xVar 2))) xSkip)
 (xRet (xTup (ae (xBin oFd (xVar 0) (xVar 2)) (ae (xBin oFd (xVar 1) (xVar 2)) xNil)))))))
def e8:Fn:=xDef 4 2 fj
theorem ko {ds:List D} {s:Pen} (h:ds.length=2):e8.p ds s=(fj.p (dSt 4 ds) s).fin:=aQ h
def eZ:Xd []:=(xSeq (xSet 1 (am aB (ae (xVar 0) (ae (xC (.int 4)) xNil))))
 (xSeq (xSet 2 (xBin aw (xC (.int 1)) (am aB (ae (xVar 0) (ae (xBin oIx (xLst (ae (xC (.int 6)) (ae (xC (.int 6)) (ae (xC (.int 12)) (ae (xC (.int 999999)) xNil))))) (xVar 1)) xNil)))))
 (xSeq (xSet 3 (xBin aw (xC (.int 1)) (am aB (ae (xVar 0) (ae (xBin oIx (xLst (ae (xC (.int 1)) (ae (xC (.int 1)) (ae (xC (.int 5)) (ae (xC (.int 999999)) xNil))))) (xVar 1)) xNil)))))
 (xSeq (xIf (xB (xBin oEq (am aB (ae (xVar 0) (ae (xC (.int 2)) xNil))) (xC (.int 1)))) (xSet 2 (xBin oSub (xC (.int 0)) (xVar 2))) xSkip)
 (xRet (am e8 (ae (xVar 2) (ae (xVar 3) xNil))))))))
def aM:Fn:=xDef 4 1 eZ
theorem kq {ds:List D} {s:Pen} (h:ds.length=1):aM.p ds s=(eZ.p (dSt 4 ds) s).fin:=aQ h
def fL:Xd []:=(xSeq (xSet 2 (xBin aw (xC (.int 1)) (am aB (ae (xVar 0) (ae (xC (.int 4)) xNil)))))
 (xRet (xCb gX (ae (bE 1 [0,2] (xItA iR1 (ae (xVar 1) xNil)) (ws':=[]) (xNm 0) (xB (xBin oEq (am aB (ae (xVar 1) (ae (xVar 2) xNil))) (xC (.int 0)))) (xTup (ae (xVar 0) (ae (am aM (ae (xVar 1) xNil)) xNil)))) xNil))))
def bT:Fn:=xDef 3 2 fL
theorem lw {ds:List D} {s:Pen} (h:ds.length=2):bT.p ds s=(fL.p (dSt 3 ds) s).fin:=aQ h
def fI:Xd []:=(xSeq (xSet 1 (xBin oIx (xLst (ae (am aB (ae (xVar 0) (ae (xC (.int 13)) xNil))) (ae (am aB (ae (xVar 0) (ae (xC (.int 4)) xNil))) xNil))) (am aB (ae (xVar 0) (ae (xC (.int 2)) xNil)))))
 (xRet (xTup (ae (xVar 1) (ae (xCb gX (ae (bE 1 [0,1] (xItA iR1 (ae (xVar 1) xNil)) (ws':=[]) (xNm 0) xTrue (am bT (ae (xVar 1) (ae (xVar 2) xNil)))) xNil)) xNil)))))
def fF:Fn:=xDef 2 1 fI
theorem ly {ds:List D} {s:Pen} (h:ds.length=1):fF.p ds s=(fI.p (dSt 2 ds) s).fin:=aQ h
def gv:Xd [3]:=(xSeq (xSet 2 (xBin oIx (xLst (ae (am aB (ae (xVar 0) (ae (xC (.int 6)) xNil))) (ae (xC (.int 20)) (ae (am aB (ae (xVar 0) (ae (xC (.int 21)) xNil))) xNil)))) (am aB (ae (xVar 0) (ae (xC (.int 3)) xNil)))))
 (xSeq (jk 3 (xLst xNil))
 (xSeq (xFor (xItA iR1 (ae (xVar 2) xNil)) (xNm 4) (xSeq (xSet 5 (am aM (ae (xVar 0) xNil)))
 (xSeq (xIf (xB (xBin oEq (am aB (ae (xVar 0) (ae (xC (.int 4)) xNil))) (xC (.int 0)))) (xSet 5 (xTup (ae (xC (.int 0)) (ae (xC (.int 1)) xNil)))) xSkip)
 (xMt im 3 (ae (xTup (ae (am bT (ae (xVar 0) (ae (xVar 1) xNil))) (ae (xVar 5) xNil))) xNil)))))
 (xRetO 3))))
def gE:Fn:=xDef 6 2 gv
theorem mI {ds:List D} {s:Pen} (h:ds.length=2):gE.p ds s=(gv.p (dSt 6 ds) s).fin:=aQ h
def gD:Xd []:=(xSeq (xIf (xB (xBin oEq (xBin oIx (xVar 0) (xC (.int 1))) (xC (.int 1)))) (xRet (xCb cStr (ae (xBin oIx (xVar 0) (xC (.int 0))) xNil))) xSkip)
 (xRet (xBin aw (xBin aw (xCb cStr (ae (xBin oIx (xVar 0) (xC (.int 0))) xNil)) (xC (.str "/"))) (xCb cStr (ae (xBin oIx (xVar 0) (xC (.int 1))) xNil)))))
def cZ:Fn:=xDef 1 1 gD
theorem mD {ds:List D} {s:Pen} (h:ds.length=1):cZ.p ds s=(gD.p (dSt 1 ds) s).fin:=aQ h
def fy:Xd []:=(xRet (bE 2 [] (xItS (xVar 0)) (ws':=[]) (xGp (xGc (xNm 0) (xGc (xNm 1) xGl)) 2) xTrue (xBin aw (xBin aw (xCb cStr (ae (xVar 0) xNil)) (xC (.str "="))) (am cZ (ae (xVar 1) xNil)))))
def d4:Fn:=xDef 1 1 fy
theorem lz {ds:List D} {s:Pen} (h:ds.length=1):d4.p ds s=(fy.p (dSt 1 ds) s).fin:=aQ h
def cS:Xd []:=(xRet (bE 1 [0] (xItA iR1 (ae (xBin oIx (xVar 0) (xC (.int 0))) xNil)) (ws':=[]) (xNm 0) xTrue (xSm bx (xC (.str " ")) (ae (xBin aw (xLst (ae (xBin aw (xCb cStr (ae (xVar 0) xNil)) (xC (.str ":"))) xNil)) (am d4 (ae (xBin oIx (xBin oIx (xVar 1) (xC (.int 1))) (xVar 0)) xNil))) xNil))))
def cH:Fn:=xDef 1 1 cS
theorem gF {ds:List D} {s:Pen} (h:ds.length=1):cH.p ds s=(cS.p (dSt 1 ds) s).fin:=aQ h
def da:Xd []:=(xRet (bE 2 [] (xItS (xVar 0)) (ws':=[]) (xGp (xGc (xNm 0) (xGc (xNm 1) xGl)) 2) xTrue (xSm bx (xC (.str " ")) (ae (xBin aw (am d4 (ae (xVar 0) xNil)) (xLst (ae (xC (.str "|")) (ae (am cZ (ae (xVar 1) xNil)) xNil)))) xNil))))
def cY:Fn:=xDef 1 1 da
theorem gL {ds:List D} {s:Pen} (h:ds.length=1):cY.p ds s=(da.p (dSt 1 ds) s).fin:=aQ h
def eE:Xd []:=(xRet (lx (xUn (oIsi ["str"]) (xVar 0)) (xBin oEq (xVar 0) (xVar 1))))
def bH:Fn:=xDef 2 2 eE
theorem jw {ds:List D} {s:Pen} (h:ds.length=2):bH.p ds s=(eE.p (dSt 2 ds) s).fin:=aQ h
def dl:Xd [9]:=(xSeq (xSet 3 (xTup (ae (xC (.int 1)) (ae (xC (.int 1)) xNil))))
 (xSeq (xFor (xItA iR1 (ae (am aB (ae (xVar 2) (ae (xC (.int 40)) xNil))) xNil)) (xNm 4) (xSet 3 (am eN (ae (xVar 3) (ae (am aM (ae (xVar 2) xNil)) xNil)))))
 (xSeq (xFor (xItS (xBin aw (xLst (ae (xTup (ae (xC (.int 0)) (ae (xC (.int 1)) xNil))) (ae (xTup (ae (xC (.int 1)) (ae (xC (.int 1)) xNil))) (ae (xTup (ae (xUn oNeg (xC (.int 1))) (ae (xC (.int 1)) xNil))) (ae (xVar 3) xNil))))) (bE 1 [2] (xItA iR1 (ae (xC (.int 6)) xNil)) (ws':=[]) (xNm 0) xTrue (am aM (ae (xVar 1) xNil))))) (xNm 5) (xIf (xNot (xB (am bH (ae (am bp (ae (xVar 5) xNil)) (ae (am cZ (ae (xVar 5) xNil)) xNil))))) (xRet (xC (.bl false))) xSkip))
 (xSeq (xSet 6 (am fF (ae (xVar 2) xNil)))
 (xSeq (xSet 7 (xSm bx (xC (.str "\n")) (ae (am cH (ae (xVar 6) xNil)) xNil)))
 (xSeq (xIf (xOr (xNot (xB (am bH (ae (am cC (ae (xVar 6) xNil)) (ae (xVar 7) xNil))))) (xB (xBin oNe (am cC (ae (xVar 6) xNil)) (xVar 7)))) (xRet (xC (.bl false))) xSkip)
 (xSeq (xSet 8 (am gE (ae (xVar 2) (ae (am aB (ae (xVar 2) (ae (xC (.int 13)) xNil))) xNil))))
 (xSeq (xSet 7 (xSm bx (xC (.str "\n")) (ae (am cY (ae (xVar 8) xNil)) xNil)))
 (xSeq (jk 9 (xCb lL (ae (xVar 8) xNil)))
 (xSeq (xIf (xOr (xNot (xB (am bH (ae (lJ bJ (ae (xVar 9) xNil)) (ae (xVar 7) xNil))))) (xB (xBin oNe (xVar 9) (xVar 8)))) (xRet (xC (.bl false))) xSkip)
 (xSeq (xMt na 9 xNil)
 (xIf (xOr (xB (xBin oNe (lJ bJ (ae (xVar 9) xNil)) (xC (.str "")))) (xB (xBin oNe (am bJ (ae (xVar 8) xNil)) (xVar 7)))) (xRet (xC (.bl false))) xSkip))))))))))))
end
end Law
namespace Law
open PySem MM PU SetT SortT
open L2 (ixN atI CPow)
set_option maxHeartbeats 1000000
theorem dig_pad {q:Nat} (hq:0<q):∀(k r:Nat),r<10 ^ (k+1)→Nat.toDigits 10 (10 ^ (k+1) * q+r)=Nat.toDigits 10 q++(List.replicate (k+1 - (Nat.toDigits 10 r).length) '0'++Nat.toDigits 10 r):=by
 intro k
 induction k with
 | zero =>
  intro r hr
  have hr':r<10:=by simpa using hr
  rw[show (10:Nat) ^ (0+1) * q+r=10 * q+r by simp,←Nat.toDigits_append_toDigits (by decide) hq hr',Nat.toDigits_of_lt_base hr']
  rfl
 | succ k ih =>
  intro r hr
  have e:10 ^ (k+1+1) * q+r=10 * (10 ^ (k+1) * q+r / 10)+r % 10:=by
   rw[Nat.pow_succ 10 (k+1),Nat.mul_comm (10 ^ (k+1)) 10,Nat.mul_assoc,Nat.mul_add]
   have:=Nat.div_add_mod r 10
   omega
  have hp:0<10 ^ (k+1) * q+r / 10:=by
   have:0<10 ^ (k+1) * q:=Nat.mul_pos (Nat.pow_pos (by decide)) hq
   omega
  rw[e,←Nat.toDigits_append_toDigits (by decide) hp (Nat.mod_lt _ (by decide)),ih (r / 10) (by rw[Nat.pow_succ 10 (k+1)] at hr;omega)]
  by_cases h:r<10
  ·have h0:r / 10=0:=by omega
   have h1:r % 10=r:=by omega
   rw[h0,h1,Nat.toDigits_zero,Nat.toDigits_of_lt_base h]
   simp[←List.replicate_succ',List.append_assoc]
  ·have e2:Nat.toDigits 10 (r / 10)++Nat.toDigits 10 (r % 10)=Nat.toDigits 10 r:=by
    rw[Nat.toDigits_append_toDigits (by decide) (by omega) (Nat.mod_lt _ (by decide)),Nat.div_add_mod]
   rw[List.append_assoc,List.append_assoc,e2]
   have e3:=congrArg List.length e2
   rw[List.length_append,Nat.toDigits_of_lt_base (Nat.mod_lt r (by decide:10>0)),List.length_singleton] at e3
   congr 3
   omega
abbrev tS (i:Int):Str:=Str.ofString (toString i)
theorem ofS_app (a b:String):Str.ofString (a++b)=Str.ofString a++Str.ofString b:=by
 simp only[Str.ofString_eq_toList]
 show (⟨((a++b).toList.map Char.toNat).toArray⟩:Str)=⟨_++_⟩
 simp
theorem str_app (a b:List Nat):(⟨a.toArray⟩:Str)++(⟨b.toArray⟩:Str)=⟨(a++b).toArray⟩:=by
 show (⟨a.toArray++b.toArray⟩:Str)=_
 simp
def dg (n:Nat):List Nat:=(Nat.toDigits 10 n).map Char.toNat
theorem hX (n:Nat):tS (n:Int)=⟨(dg n).toArray⟩:=by
 unfold tS dg
 rw[Str.ofString_eq_toList,Int.toString_eq_repr,Int.repr_eq_if,if_pos (by omega)]
 simp
theorem tS_neg {i:Int} (h:i<0):tS i=Str.ofString "-"++tS (i.natAbs:Int):=by
 unfold tS
 rw[Int.toString_eq_repr,Int.repr_eq_if,if_neg (by omega),ofS_app,Int.toString_eq_repr,Int.repr_eq_if,if_pos (by omega)]
 congr 3
 omega
theorem dg_ge {n c:Nat} (h:c∈dg n):48≤c∧c≤57:=by
 unfold dg at h
 obtain ⟨d,hd,rfl⟩:=List.mem_map.mp h
 have:=Nat.isDigit_of_mem_toDigits (by decide) (by decide) hd
 unfold Char.isDigit at this
 simp at this
 obtain ⟨a,b⟩:=this
 constructor
 ·exact UInt32.le_iff_toNat_le.mp a
 ·exact UInt32.le_iff_toNat_le.mp b
theorem m3 {n k:Nat} (hk:0<k):(dg n).length≤k↔n<10 ^ k:=by
 unfold dg
 rw[List.length_map]
 exact Nat.length_toDigits_le_iff (by decide) hk
theorem jI {r k:Nat} (hr:r<10 ^ (k+1)):Txt.zfill ⟨(dg r).toArray⟩ ((k+1:Nat):Int)=⟨(List.replicate (k+1 - (dg r).length) 48++dg r).toArray⟩:=by
 have hl:(dg r).length≤k+1:=(m3 (by omega)).mpr hr
 unfold Txt.zfill
 have el:(⟨(dg r).toArray⟩:Str).length=(dg r).length:=by show (dg r).toArray.size=_;simp
 rw[el]
 by_cases h:((k+1:Nat):Int)≤((dg r).length:Int)
 ·rw[if_pos h,show k+1 - (dg r).length=0 by omega];rfl
 ·rw[if_neg h,Int.toNat_natCast]
  unfold zfilled
  have h0:∀c,(⟨(dg r).toArray⟩:Str).cps[0]?=some c→48≤c:=fun c e=>by
   have:c∈dg r:=by
    have e':(dg r)[0]?=some c:=by simpa using e
    exact List.mem_of_getElem? e'
   exact (dg_ge this).1
  split
  ·rename_i e;have:=h0 _ e;omega
  ·rename_i e;have:=h0 _ e;omega
  ·unfold Builtin.Str.padded
   simp
theorem dg_pad {n k:Nat} (h:10 ^ (k+1)≤n):dg n=dg (n / 10 ^ (k+1))++(List.replicate (k+1 - (dg (n % 10 ^ (k+1))).length) 48++dg (n % 10 ^ (k+1))):=by
 have hp:0<10 ^ (k+1):=Nat.pow_pos (by decide)
 have:=dig_pad (q:=n / 10 ^ (k+1)) (Nat.div_pos h hp) k (n % 10 ^ (k+1)) (Nat.mod_lt _ hp)
 rw[Nat.div_add_mod] at this
 unfold dg
 rw[this]
 simp
theorem tS_cut {n:Nat} (h:10 ^ 60≤n):tS (n:Int)=tS ((n / 10 ^ 60:Nat):Int)++Txt.zfill (tS ((n % 10 ^ 60:Nat):Int)) 60:=by
 rw[hX,hX,hX]
 have z:=jI (r:=n % 10 ^ 60) (k:=59) (Nat.mod_lt _ (by decide))
 rw[show ((60:Int))=((59+1:Nat):Int) by rfl,z,str_app]
 congr 2
 exact dg_pad (k:=59) h
theorem cL {i:Int} {k:Nat} (hk:0<k) (h:i.natAbs<10 ^ k):(tS i).length≤k+1:=by
 unfold tS
 rw[PySem.ofString_length]
 exact PySem.int_text_length_le10 hk h
theorem fu (x:Str):Str.empty++x=x:=by
 show (⟨#[]++x.cps⟩:Str)=x
 simp
theorem mW (x:Str):x++Str.empty=x:=by
 show (⟨x.cps++#[]⟩:Str)=x
 simp
theorem app_as (x y z:Str):x++y++z=x++(y++z):=by
 show (⟨x.cps++y.cps++z.cps⟩:Str)=⟨x.cps++(y.cps++z.cps)⟩
 simp
abbrev nD (t b:Int):D:=.tup [.int t,.int b]
theorem eW {a b:Int} (ha:0≤a) (hb:0≤b):Int.gcd b (a % b)=Int.gcd a b:=by
 obtain ⟨m,rfl⟩:=Int.eq_ofNat_of_zero_le ha
 obtain ⟨n,rfl⟩:=Int.eq_ofNat_of_zero_le hb
 show Nat.gcd n (m % n)=Nat.gcd m n
 rw[Nat.gcd_comm m n,Nat.gcd_rec n m,Nat.gcd_comm]
theorem gx {a b:Int} (hb:0<b):oMod.p (.int a) (.int b)=some (.int (a % b)):=by
 rw[oMod_ii (by omega),Int.fmod_eq_emod_of_nonneg _ (by omega)]
theorem ic {a b:Int} (hb:0<b) (hl:b.natAbs.log2<9000):oFd.p (.int a) (.int b)=some (.int (a / b)):=by
 show (if b≠0∧Builtin.divisionGoesByPylong a b=false then _ else _)=_
 rw[if_pos ⟨by omega,PyProof.noPylong_of_log2 hl⟩,Int.fdiv_eq_ediv_of_nonneg _ (by omega)]
theorem mw {a b:Int} (h:b.natAbs<2 ^ 64):oMul.p (.int a) (.int b)=some (.int (a * b)):=by
 exact if_pos (IntMulOk.of_right (intBits_le_64 (by omega) (by omega)))
theorem abs_nn {a:Int}:(if a<0 then -a else a)=(a.natAbs:Int):=by split <;> omega
theorem eO {a:Int}:cAbs.p [.int a]=some (.int (a.natAbs:Int)):=by
 show some (D.int (if a<0 then -a else a))=_
 rw[abs_nn]
theorem lC {ws:List Nat} {N:Nat} {t:Xt ws} {b:Xd ws} (hm:∀{σ h n},mWhN t.m b.m n σ h≠.bad→mWh t.m b.m σ h=mWhN t.m b.m n σ h) {env:DEnv} {s:Pen}:(xWh N t b hm).p env s=pWhN t.p b.p N env s:=rfl
theorem jJ {b r:Int} (h0:0<r) (h1:r<b):0≤b % r∧b % r<r∧2 * (b % r)<b:=by
 have a1:=Int.emod_nonneg b (show r≠0 by omega)
 have a2:=Int.emod_lt_of_pos b h0
 have a3:=Int.mul_ediv_add_emod b r
 have a4:1≤b / r:=by rw[Int.le_ediv_iff_mul_le h0];omega
 have a5:r * 1≤r * (b / r):=Int.mul_le_mul_of_nonneg_left a4 (by omega)
 omega
theorem cx {a:Int} (h:0≤a):((Int.gcd a 0:Nat):Int)=a:=by rw[Int.gcd_zero_right];omega
noncomputable abbrev lowT:Xt []:=xB (xBin oGt (xVar 3) (xC (.int 0)))
noncomputable abbrev lowB:Xd []:=xPar 2 3 (ae (xVar 3) (ae (xBin oMod (xVar 2) (xVar 3)) xNil))
theorem low1 {x y:Option D} {a b:Int} {n:Nat} {s:Pen} (hb:0<b):pWhN lowT.p lowB.p (n+1) [x,y,some (.int a),some (.int b)] s=pWhN lowT.p lowB.p n [x,y,some (.int b),some (.int (a % b))] s:=by
 rw[pWhN]
 simp[gx hb,hb,PR.bl]
theorem low0 {x y:Option D} {a:Int} {n:Nat} {s:Pen}:pWhN lowT.p lowB.p (n+1) [x,y,some (.int a),some (.int 0)] s=.nx [x,y,some (.int a),some (.int 0)] s:=by
 rw[pWhN]
 simp[PR.bl]
theorem low_run {x y:Option D} {s:Pen}:∀(k n:Nat) (a b:Int),0≤a→0≤b→b<2 ^ k→2 * k+1≤n→pWhN lowT.p lowB.p n [x,y,some (.int a),some (.int b)] s=.nx [x,y,some (.int (Int.gcd a b)),some (.int 0)] s:=by
 intro k
 induction k with
 | zero =>
  intro n a b ha hb hk hn
  obtain ⟨m,rfl⟩:∃m,n=m+1:=⟨n - 1,by omega⟩
  have:b=0:=by simp at hk;omega
  subst this
  rw[low0,cx ha]
 | succ k ih =>
  intro n a b ha hb hk hn
  obtain ⟨m,rfl⟩:∃m,n=m+1+1:=⟨n - 2,by omega⟩
  by_cases e:b=0
  ·subst e
   rw[low0,cx ha]
  ·have hb':0<b:=by omega
   rw[low1 hb',←eW ha hb]
   have r0:=Int.emod_nonneg a e
   have r1:=Int.emod_lt_of_pos a hb'
   generalize a % b=r at r0 r1 ⊢
   by_cases er:r=0
   ·subst er
    rw[low0,cx hb]
   ·obtain ⟨h0,h1,h2⟩:=jJ (b:=b) (r:=r) (by omega) r1
    rw[low1 (by omega),←eW hb r0]
    refine ih m r (b % r) r0 h0 ?_ (by omega)
    rw[Int.pow_succ] at hk
    omega
noncomputable abbrev gsT:Xt []:=xB (xBin oNe (xVar 1) (xC (.int 0)))
noncomputable abbrev gsB:Xd []:=xSeq (xSet 2 (xBin oMod (xVar 0) (xVar 1))) (xSeq (xSet 0 (xVar 1)) (xSet 1 (xVar 2)))
theorem gs1 {z:Option D} {a b:Int} {n:Nat} {s:Pen} (hb:0<b):pWhN gsT.p gsB.p (n+1) [some (.int a),some (.int b),z] s=pWhN gsT.p gsB.p n [some (.int b),some (.int (a % b)),some (.int (a % b))] s:=by
 rw[pWhN]
 simp[gx hb,show ¬b=0 by omega,PR.bl]
theorem gs0 {z:Option D} {a:Int} {n:Nat} {s:Pen}:pWhN gsT.p gsB.p (n+1) [some (.int a),some (.int 0),z] s=.nx [some (.int a),some (.int 0),z] s:=by
 rw[pWhN]
 simp[PR.bl]
theorem gs_run {s:Pen}:∀(k n:Nat) (a b:Int) (z:Option D),0≤a→0≤b→b<2 ^ k→2 * k+1≤n→∃z',pWhN gsT.p gsB.p n [some (.int a),some (.int b),z] s=.nx [some (.int (Int.gcd a b)),some (.int 0),z'] s:=by
 intro k
 induction k with
 | zero =>
  intro n a b z ha hb hk hn
  obtain ⟨m,rfl⟩:∃m,n=m+1:=⟨n - 1,by omega⟩
  have:b=0:=by simp at hk;omega
  subst this
  exact ⟨z,by rw[gs0,cx ha]⟩
 | succ k ih =>
  intro n a b z ha hb hk hn
  obtain ⟨m,rfl⟩:∃m,n=m+1+1:=⟨n - 2,by omega⟩
  by_cases e:b=0
  ·subst e
   exact ⟨z,by rw[gs0,cx ha]⟩
  ·have hb':0<b:=by omega
   rw[gs1 hb',←eW ha hb]
   have r0:=Int.emod_nonneg a e
   have r1:=Int.emod_lt_of_pos a hb'
   generalize a % b=r at r0 r1 ⊢
   by_cases er:r=0
   ·subst er
    exact ⟨_,by rw[gs0,cx hb]⟩
   ·obtain ⟨h0,h1,h2⟩:=jJ (b:=b) (r:=r) (by omega) r1
    rw[gs1 (by omega),←eW hb r0]
    refine ih m r (b % r) _ r0 h0 ?_ (by omega)
    rw[Int.pow_succ] at hk
    omega
theorem gs_p {a b:Int} {s:Pen} (ha:0≤a) (hb:0≤b) (hk:b<2 ^ 1990):bv.p [.int a,.int b] s=.ok (.int (Int.gcd a b)) s:=by
 rw[fB (by rfl)];unfold cg
 obtain ⟨z',q⟩:=gs_run (s:=s) 1990 4000 a b none ha hb hk (by omega)
 have e0:dSt 3 [D.int a,.int b]=[some (.int a),some (.int b),none]:=rfl
 rw[e0,bV]
 rw[lC eR]
 refine (congrArg (fun z:PS=>(z.then _).fin) q).trans ?_
 simp
theorem iN {t b:Int} (hb:0<b):0<(Nat.gcd t.natAbs b.natAbs:Int)∧(t / (Nat.gcd t.natAbs b.natAbs:Int)).natAbs≤t.natAbs∧1≤b / (Nat.gcd t.natAbs b.natAbs:Int)∧b / (Nat.gcd t.natAbs b.natAbs:Int)≤b:=by
 have e:((b.natAbs:Int))=b:=by omega
 have h1:(Nat.gcd t.natAbs b.natAbs:Int) ∣ b:=by
  have:=Int.gcd_dvd_right (t.natAbs:Int) (b.natAbs:Int)
  rw[Int.gcd_natCast_natCast] at this
  rwa [e] at this
 have h0:0<(Nat.gcd t.natAbs b.natAbs:Int):=by
  have:0<Nat.gcd t.natAbs b.natAbs:=Nat.gcd_pos_of_pos_right _ (by omega)
  omega
 generalize (Nat.gcd t.natAbs b.natAbs:Int)=g at h0 h1 ⊢
 refine ⟨h0,?_,?_,Int.ediv_le_self _ (by omega)⟩
 ·rcases Int.lt_or_le t 0 with z|z
  ·have a1:t / g<0:=Int.ediv_neg_of_neg_of_pos z h0
   have a2:t≤t / g:=by
    rw[Int.le_ediv_iff_mul_le h0]
    have:t * g≤t * 1:=Int.mul_le_mul_of_nonpos_left (by omega) (by omega)
    omega
   omega
  ·have a1:0≤t / g:=Int.ediv_nonneg z (by omega)
   have a2:t / g≤t:=Int.ediv_le_self _ z
   omega
 ·obtain ⟨c,rfl⟩:=h1
  rw[Int.mul_ediv_cancel_left _ (by omega)]
  have:0<g * c:=hb
  rcases Int.lt_or_le 0 c with z|z
  ·omega
  ·have:=Int.mul_nonpos_of_nonneg_of_nonpos (a:=g) (b:=c) (by omega) z
   omega
theorem lT {b:Int} {k:Nat} (hk:0<k) (h:b.natAbs<2 ^ k):b.natAbs.log2<k:=by
 rcases Nat.eq_zero_or_pos b.natAbs with e|e
 ·rw[e];simpa using hk
 ·exact (Nat.log2_lt (by omega)).mpr h
theorem kS {t b:Int} (hb:0<b) (hk:b<2 ^ 1990):(Nat.gcd t.natAbs b.natAbs:Int).natAbs.log2<9000:=by
 have h:Nat.gcd t.natAbs b.natAbs ∣ b.natAbs:=Nat.gcd_dvd_right _ _
 have h2:=Nat.le_of_dvd (by omega) h
 have h3:b.natAbs<2 ^ 1990:=by
  have e:((b.natAbs:Int))=b:=by omega
  have:((b.natAbs:Nat):Int)<((2 ^ 1990:Nat):Int):=by rw[e];simpa using hk
  exact Int.ofNat_lt.mp this
 refine lT (k:=9000) (by decide) ?_
 rw[Int.natAbs_natCast]
 exact Nat.lt_trans (Nat.lt_of_le_of_lt h2 h3) (Nat.pow_lt_pow_right (by decide) (by decide))
theorem km {t b:Int} {s:Pen} (hb:0<b) (hk:b<2 ^ 1990):∃t' b':Int,eG.p [.int t,.int b] s=.ok (nD t' b') s∧t'.natAbs≤t.natAbs∧1≤b'∧b'≤b:=by
 obtain ⟨h0,h1,h2,h3⟩:=iN (t:=t) hb
 refine ⟨_,_,?_,h1,h2,h3⟩
 have w:∀i:Int,dD.p [.int i] s=.ok (.bl true) s:=fun i=>by
  rw[ky (by rfl)];unfold e9
  have e0:dSt 1 [D.int i]=[some (.int i)]:=rfl
  rw[e0]
  simp[PR.bl,isaT]
 have hk':(b.natAbs:Int)<2 ^ 1990:=by rw[show ((b.natAbs:Int))=b by omega];exact hk
 rw[jC (by rfl)];unfold eI
 have e0:dSt 3 [D.int t,.int b]=[some (.int t),some (.int b),none]:=rfl
 have g:bv.p [.int t.natAbs,.int b.natAbs] s=.ok (.int (Nat.gcd t.natAbs b.natAbs:Int)) s:=gs_p (a:=(t.natAbs:Int)) (b:=(b.natAbs:Int)) (s:=s) (by omega) (by omega) hk'
 rw[e0]
 simp[w,PR.bl,eO,g,show ¬b=0 by omega,show ¬b<0 by omega,ic h0 (kS hb hk),nD]
theorem nE {t b:Int} {s:Pen} (hb:0<b) (hk:b<2 ^ 1990):∃t' b':Int,e8.p [.int t,.int b] s=.ok (nD t' b') s∧t'.natAbs≤t.natAbs∧1≤b'∧b'≤b:=by
 obtain ⟨h0,h1,h2,h3⟩:=iN (t:=t) hb
 refine ⟨_,_,?_,h1,h2,h3⟩
 have hk':(b.natAbs:Int)<2 ^ 1990:=by rw[show ((b.natAbs:Int))=b by omega];exact hk
 rw[ko (by rfl)];unfold fj
 have e0:dSt 4 [D.int t,.int b]=[some (.int t),some (.int b),none,none]:=rfl
 have q:=low_run (x:=some (.int t)) (y:=some (.int b)) (s:=s) 1990 4000 (t.natAbs:Int) (b.natAbs:Int) (by omega) (by omega) hk' (by omega)
 rw[e0]
 simp only[bV,xPar_p,aA,aF,dA,aJ,aY,PR.bind_ok,eO,PR.of_some,PR.go_ok,List.set_cons_succ,List.set_cons_zero,PU.aK]
 rw[lC eR]
 refine (congrArg (fun z:PS=>(z.then _).fin) q).trans ?_
 rw[Int.gcd_natCast_natCast]
 simp[PR.bl,show ¬b<0 by omega,ic h0 (kS hb hk),nD]
theorem times_p {a b c d:Int} {s:Pen} (hb:1≤b) (hd:1≤d) (hc:c.natAbs<2 ^ 64) (hd2:d.natAbs<2 ^ 64) (hk:b * d<2 ^ 1990):∃t' b':Int,eN.p [nD a b,nD c d] s=.ok (nD t' b') s∧t'.natAbs≤(a * c).natAbs∧1≤b'∧b'≤b * d:=by
 obtain ⟨t',b',q,h⟩:=km (t:=a * c) (b:=b * d) (s:=s) (by have:=Int.mul_pos (a:=b) (b:=d) (by omega) (by omega);exact this) hk
 refine ⟨t',b',?_,h⟩
 rw[nr (by rfl)];unfold ie
 have e0:dSt 2 [nD a b,nD c d]=[some (nD a b),some (nD c d)]:=rfl
 rw[e0]
 have z0:∀x y:Int,atI [D.int x,.int y] 0=some (.int x):=fun _ _=>rfl
 have z1:∀x y:Int,atI [D.int x,.int y] 1=some (.int y):=fun _ _=>rfl
 simp[z0,z1,mw hc,mw hd2,q]
def Six (t b:Int):Prop:=t.natAbs≤1000000∧1≤b∧b≤1000000
theorem eV {s:Pen}:∃t b s',aM.p [.pen] s=.ok (nD t b) s'∧Six t b:=by
 obtain ⟨w,s1,w0,w1,q1⟩:=bj (s:=s) (size:=4) (by decide) (by decide)
 obtain ⟨m,em,m0,m1⟩:∃m:Int,atI [D.int 6,.int 6,.int 12,.int 999999] w=some (.int m)∧0<m∧m≤999999:=by
  obtain rfl|rfl|rfl|rfl:w=0∨w=1∨w=2∨w=3:=by omega
  ·exact ⟨6,rfl,by decide,by decide⟩
  ·exact ⟨6,rfl,by decide,by decide⟩
  ·exact ⟨12,rfl,by decide,by decide⟩
  ·exact ⟨999999,rfl,by decide,by decide⟩
 obtain ⟨n,en,n0,n1⟩:∃m:Int,atI [D.int 1,.int 1,.int 5,.int 999999] w=some (.int m)∧0<m∧m≤999999:=by
  obtain rfl|rfl|rfl|rfl:w=0∨w=1∨w=2∨w=3:=by omega
  ·exact ⟨1,rfl,by decide,by decide⟩
  ·exact ⟨1,rfl,by decide,by decide⟩
  ·exact ⟨5,rfl,by decide,by decide⟩
  ·exact ⟨999999,rfl,by decide,by decide⟩
 obtain ⟨t,s2,t0,t1,q2⟩:=bj (s:=s1) (size:=m) m0 (by omega)
 obtain ⟨b,s3,b0,b1,q3⟩:=bj (s:=s2) (size:=n) n0 (by omega)
 obtain ⟨g,s4,g0,g1,q4⟩:=bj (s:=s3) (size:=2) (by decide) (by decide)
 have big:∀x:Int,x≤1000000→x<2 ^ 1990:=fun x h=>Int.lt_of_le_of_lt h (by decide +kernel)
 obtain ⟨t',b',q5,h1,h2,h3⟩:=nE (t:=if g=1 then 0 - (1+t) else 1+t) (b:=1+b) (s:=s4) (by omega) (big _ (by omega))
 refine ⟨t',b',s4,?_,?_,h2,by omega⟩
 ·rw[kq (by rfl)];unfold eZ
  have e0:dSt 4 [D.pen]=[some .pen,none,none,none]:=rfl
  rw[e0]
  by_cases z:g=1
  ·rw[if_pos z,Int.zero_sub] at q5
   simp[q1,em,q2,en,q3,q4,PR.bl,z,q5]
  ·rw[if_neg z] at q5
   simp[q1,em,q2,en,q3,q4,PR.bl,z,q5]
 ·have:(if g=1 then 0 - (1+t) else 1+t).natAbs≤1000000:=by split <;> omega
  omega
theorem lg {i:Int} (h:i.natAbs<10 ^ 300):i.natAbs.log2<1920:=lT (by decide) (Nat.lt_trans h (by decide +kernel))
theorem sz:1000000≤sizeLine:=by decide
theorem dS {i:Int} (h:i.natAbs<10 ^ 300):cStr.p [.int i]=some (.str (tS i)):=by
 exact if_pos (lg h)
abbrev slash:Str:=Str.ofString "/"
def txt (t b:Int):Str:=if b=1 then tS t else tS t++slash++tS b
theorem len1 {x:String} (h:x.length=1):(Str.ofString x).length=1:=by rw[PySem.ofString_length];exact h
theorem fU:slash.length=1:=len1 rfl
theorem ds_len:(Str.ofString "-").length=1:=len1 rfl
theorem txt_len {t b:Int} {k:Nat} (hk:0<k) (h1:t.natAbs<10 ^ k) (h2:b.natAbs<10 ^ k):(txt t b).length≤2 * k+3:=by
 have a:=cL hk h1
 have c:=cL hk h2
 unfold txt
 split
 ·omega
 ·rw[strLen_append,strLen_append,fU];omega
theorem ix0 (x y:Int):atI [D.int x,.int y] 0=some (.int x):=rfl
theorem ixb (x y:Int):atI [D.int x,.int y] 1=some (.int y):=rfl
theorem gA {t b:Int} {s:Pen} (h1:t.natAbs<10 ^ 300) (h2:b.natAbs<10 ^ 300):cZ.p [nD t b] s=.ok (.str (txt t b)) s:=by
 rw[mD (by rfl)];unfold gD
 have e0:dSt 1 [nD t b]=[some (nD t b)]:=rfl
 have a:=cL (k:=300) (by decide) h1
 have c:=cL (k:=300) (by decide) h2
 have z:=sz
 rw[e0]
 by_cases hb:b=1
 ·subst hb
  simp[ix0,ixb,dS h1,PR.bl,txt]
 ·have e1:aw.p (.str (tS t)) (.str slash)=some (.str (tS t++slash)):=bt (by rw[fU];omega)
  have e2:aw.p (.str (tS t++slash)) (.str (tS b))=some (.str (tS t++slash++tS b)):=bt (by rw[strLen_append,fU];omega)
  simp[ix0,ixb,dS h1,dS h2,PR.bl,txt,hb,e1,e2]
theorem m9 {r:Nat} (hr:r<10 ^ 60):(Txt.zfill (tS (r:Int)) 60).length=60:=by
 rw[hX]
 have z:=jI (r:=r) (k:=59) hr
 rw[show ((60:Int))=((59+1:Nat):Int) by rfl,z]
 have hl:(dg r).length≤60:=(m3 (by omega)).mpr hr
 show (List.replicate (59+1 - (dg r).length) 48++dg r).toArray.size=60
 simp
 omega
theorem sZ60 {x:Str}:jO.p x [.int 60]=some (.str (Txt.zfill x 60)):=by
 show (if PadOk 60=true then some (D.str (Txt.zfill x 60)) else none)=_
 exact if_pos (by decide)
theorem p60:oPow.p (.int 10) (.int 60)=some (.int ((10 ^ 60:Nat):Int)):=by
 exact if_pos (show CPow 10 60 from ⟨by decide,by decide,by decide⟩)
noncomputable abbrev swT:Xt []:=xB (xBin oGe (xVar 0) (xBin oPow (xC (.int 10)) (xC (.int 60))))
noncomputable abbrev swB:Xd []:=xSeq (xSet 1 (xBin aw (xSm jO (xCb cStr (ae (xBin oMod (xVar 0) (xBin oPow (xC (.int 10)) (xC (.int 60)))) xNil)) (ae (xC (.int 60)) xNil)) (xVar 1)))
 (xSet 0 (xBin oFd (xVar 0) (xBin oPow (xC (.int 10)) (xC (.int 60)))))
theorem big60:0<((10 ^ 60:Nat):Int):=by decide
theorem fd60 {n:Nat}:oFd.p (.int (n:Int)) (.int ((10 ^ 60:Nat):Int))=some (.int ((n / 10 ^ 60:Nat):Int)):=by
 rw[ic big60 (by decide +kernel),Int.natCast_ediv]
theorem md60 {n:Nat}:oMod.p (.int (n:Int)) (.int ((10 ^ 60:Nat):Int))=some (.int ((n % 10 ^ 60:Nat):Int)):=by
 rw[gx big60,Int.natCast_emod]
theorem sw0 {n m:Nat} {x:Str} {s:Pen} (h:n<10 ^ 60):pWhN swT.p swB.p (m+1) [some (.int (n:Int)),some (.str x)] s=.nx [some (.int (n:Int)),some (.str x)] s:=by
 rw[pWhN]
 have:¬((10 ^ 60:Nat):Int)≤(n:Int):=by omega
 simp only[swT,xB_p,aV,aJ,PR.bind_ok,xC_p,bF,p60,PR.of_some,lQ,PR.bl,PR.go_ok,decide_eq_true_eq,this,if_false]
theorem sw1 {n m:Nat} {x:Str} {s:Pen} (h:10 ^ 60≤n) (hx:x.length≤1000):pWhN swT.p swB.p (m+1) [some (.int (n:Int)),some (.str x)] s=pWhN swT.p swB.p m [some (.int ((n / 10 ^ 60:Nat):Int)),some (.str (Txt.zfill (tS ((n % 10 ^ 60:Nat):Int)) 60++x))] s:=by
 rw[pWhN]
 have hm:n % 10 ^ 60<10 ^ 60:=Nat.mod_lt _ (by decide)
 have:((10 ^ 60:Nat):Int)≤(n:Int):=by omega
 have e1:cStr.p [.int ((n % 10 ^ 60:Nat):Int)]=some (.str (tS ((n % 10 ^ 60:Nat):Int))):=dS (by rw[Int.natAbs_natCast];exact Nat.lt_trans hm (by decide +kernel))
 have e2:aw.p (.str (Txt.zfill (tS ((n % 10 ^ 60:Nat):Int)) 60)) (.str x)=some (.str (Txt.zfill (tS ((n % 10 ^ 60:Nat):Int)) 60++x)):=bt (by rw[m9 hm];have:=sz;omega)
 simp only[swT,swB,xB_p,aV,aJ,aY,PR.bind_ok,xC_p,bF,p60,PR.of_some,lQ,PR.bl,PR.go_ok,decide_eq_true_eq,this,if_true,bV,dn,ec,dA,aA,aF,md60,e1,sZ60,e2,List.set_cons_succ,List.set_cons_zero,PU.aK,fd60,PU.kD]
theorem sw_run {s:Pen}:∀(k m n:Nat) (x:Str),n<10 ^ (60 * (k+1))→k+1≤m→x.length+60 * k≤1000→∃(n':Nat) (x':Str),pWhN swT.p swB.p m [some (.int (n:Int)),some (.str x)] s=.nx [some (.int (n':Int)),some (.str x')] s∧n'<10 ^ 60∧x'.length≤x.length+60 * k∧tS (n':Int)++x'=tS (n:Int)++x:=by
 intro k
 induction k with
 | zero =>
  intro m n x hn hm hx
  obtain ⟨m,rfl⟩:∃j,m=j+1:=⟨m - 1,by omega⟩
  have hn':n<10 ^ 60:=by simpa using hn
  exact ⟨n,x,sw0 hn',hn',by omega,rfl⟩
 | succ k ih =>
  intro m n x hn hm hx
  obtain ⟨m,rfl⟩:∃j,m=j+1:=⟨m - 1,by omega⟩
  by_cases h:n<10 ^ 60
  ·exact ⟨n,x,sw0 h,h,by omega,rfl⟩
  ·have h':10 ^ 60≤n:=by omega
   have hm':n % 10 ^ 60<10 ^ 60:=Nat.mod_lt _ (by decide)
   rw[sw1 h' (by omega)]
   have el:(Txt.zfill (tS ((n % 10 ^ 60:Nat):Int)) 60++x).length=60+x.length:=by rw[strLen_append,m9 hm']
   obtain ⟨n',x',q,a,b,c⟩:=ih m (n / 10 ^ 60) (Txt.zfill (tS ((n % 10 ^ 60:Nat):Int)) 60++x) (by
    rw[Nat.div_lt_iff_lt_mul (by decide),←Nat.pow_add]
    exact hn) (by omega) (by omega)
   refine ⟨n',x',q,a,by omega,?_⟩
   rw[c,←app_as,←tS_cut h']
theorem fQ {n:Nat} {s:Pen} (h:n<10 ^ 300):cR.p [.int (n:Int)] s=.ok (.str (tS (n:Int))) s:=by
 rw[i4 (by rfl)];unfold dU
 have e0:dSt 2 [D.int (n:Int)]=[some (.int (n:Int)),none]:=rfl
 obtain ⟨n',x',q,a,b,c⟩:=sw_run (s:=s) 4 4000 n Str.empty h (by omega) (by decide)
 rw[e0]
 simp only[bV,dn,xC_p,cP,PR.go_ok,List.set_cons_succ,List.set_cons_zero,PU.aK]
 rw[lC eR]
 refine (congrArg (fun z:PS=>(z.then _).fin) q).trans ?_
 rw[mW] at c
 have l1:=cL (i:=(n':Int)) (k:=60) (by decide) (by rw[Int.natAbs_natCast];exact a)
 have e1:aw.p (.str (tS (n':Int))) (.str x')=some (.str (tS (n':Int)++x')):=bt (by
  have:=sz
  have:Str.empty.length=0:=rfl
  omega)
 have e2:cStr.p [.int (n':Int)]=some (.str (tS (n':Int))):=dS (by rw[Int.natAbs_natCast];exact Nat.lt_trans a (by decide +kernel))
 simp only[PU.aK,cF,aV,dA,aA,aF,aJ,aY,PR.bind_ok,e2,PR.of_some,e1,PR.go_ok,PU.dX]
 rw[c]
theorem dr {t b:Int} {s:Pen} (h1:t.natAbs<10 ^ 300) (hb:1≤b) (h2:b.natAbs<10 ^ 300):bp.p [nD t b] s=.ok (.str (txt t b)) s:=by
 rw[ix (by rfl)];unfold du
 have e0:dSt 2 [nD t b]=[some (nD t b),none]:=rfl
 have q1:=fQ (s:=s) h1
 have q2:=fQ (s:=s) h2
 rw[show ((b.natAbs:Nat):Int)=b by omega] at q2
 have a:=cL (k:=300) (by decide) h1
 have a':=cL (i:=(t.natAbs:Int)) (k:=300) (by decide) (by rw[Int.natAbs_natCast];exact h1)
 have c:=cL (k:=300) (by decide) h2
 have z:=sz
 have e1:aw.p (.str (tS t)) (.str slash)=some (.str (tS t++slash)):=bt (by rw[fU];omega)
 have e2:aw.p (.str (tS t++slash)) (.str (tS b))=some (.str (tS t++slash++tS b)):=bt (by rw[strLen_append,fU];omega)
 rw[e0]
 by_cases ht:t<0
 ·have e3:aw.p (.str (Str.ofString "-")) (.str (tS (t.natAbs:Int)))=some (.str (tS t)):=by
   rw[tS_neg ht];exact bt (by rw[ds_len];omega)
  by_cases hb1:b=1
  ·simp[ix0,ixb,eO,q1,PR.bl,ht,e3,hb1,txt]
  ·simp[ix0,ixb,eO,q1,PR.bl,ht,e3,hb1,txt,e1,q2,e2]
 ·have e3:((t.natAbs:Int))=t:=by omega
  rw[e3] at q1
  by_cases hb1:b=1
  ·simp[ix0,ixb,eO,e3,q1,PR.bl,ht,hb1,txt]
  ·simp[ix0,ixb,eO,e3,q1,PR.bl,ht,hb1,txt,e1,q2,e2]
theorem bM (x:String):PyData.strOk (Str.ofString x)=true:=by
 unfold PyData.strOk
 rw[Str.ofString_eq_toList]
 simp only[List.all_toArray,List.all_eq_true,List.mem_map,decide_eq_true_eq]
 rintro n ⟨c,_,rfl⟩
 have:=c.valid
 show c.val.toNat<1114112
 rcases this with h|h
 ·have:c.val.toNat<55296:=h
  omega
 ·have:c.val.toNat<1114112:=h.2
  omega
theorem dZ {x y:Str} (hx:PyData.strOk x=true) (hy:PyData.strOk y=true):PyData.strOk (x++y)=true:=by
 unfold PyData.strOk at hx hy ⊢
 show (x.cps++y.cps).all _=true
 rw[Array.all_append,hx,hy];rfl
theorem jQ (t b:Int):PyData.strOk (txt t b)=true:=by
 unfold txt
 split
 ·exact bM _
 ·exact dZ (dZ (bM _) (bM _)) (bM _)
theorem gf {z:Str} (hz:PyData.strOk z=true):∀ts:List Str,(∀x∈ts,PyData.strOk x=true)→PyData.strOk (Txt.join z ts)=true:=by
 intro ts h
 show PyData.strOk (Builtin.Str.glued z ts)=true
 rw[StrLaws.glued_eq_join]
 induction ts with
 | nil=>show PyData.strOk Str.empty=true;simp[PyData.strOk,Str.empty]
 | cons x ts ih =>
  cases ts with
  | nil=>exact h x (by simp)
  | cons y ts=>exact dZ (dZ (h x (by simp)) hz) (ih fun w hw=>h w (List.mem_cons_of_mem _ hw))
theorem gQ {neg:Bool} {x y:Str} (hx:PyData.strOk x=true) (hy:PyData.strOk y=true):eqD neg (.str x) (.str y)=some (.bl (if neg then !decide (x=y) else decide (x=y))):=by
 simp[eqD,py,dep,SeqAt.shaped,PyData.canLay0,PyData.depth,PyData.eqv,hx,hy,Bool.beq_eq_decide_eq]
theorem fH {x:Str} {s:Pen} (hx:PyData.strOk x=true):bH.p [.str x,.str x] s=.ok (.bl true) s:=by
 rw[jw (by rfl)];unfold eE
 have e0:dSt 2 [D.str x,.str x]=[some (.str x),some (.str x)]:=rfl
 rw[e0]
 simp[PR.bl,isaT,gQ hx hx]
theorem eT {g:D→DEnv→Option DEnv} {t:DEnv→Pen→PR Bool} {e:DEnv→Pen→PR D} (S:DEnv→Prop) (P:D→Prop):∀(ds:List D) (env:DEnv) (s:Pen),S env →
  (∀x∈ds,∀env s,S env→∃env1,g x env=some env1∧S env1∧∃b s1,t env1 s=.ok b s1∧(b=true→∃y s2,e env1 s1=.ok y s2∧P y))→∃r s',bN g t e ds env s=.ok r s'∧r.length≤ds.length∧∀y∈r,P y
 | [],env,s,hS,body=>⟨[],s,rfl,by simp,by simp⟩
 | x::ds,env,s,hS,body=>by
  obtain ⟨env1,e1,hS1,b,s1,e2,e3⟩:=body x (by simp) env s hS
  have rest:=fun y hy=>body y (List.mem_cons_of_mem x hy)
  rw[bN,e1]
  dsimp only
  rw[e2,PR.bind_ok]
  cases b with
  | true =>
   obtain ⟨y,s2,e4,py⟩:=e3 rfl
   obtain ⟨r,s3,e5,hl,hr⟩:=eT S P ds env1 s2 hS1 rest
   refine ⟨y::r,s3,by simp only[if_true,e4,PR.bind_ok,e5],by simp;omega,fun z hz=>?_⟩
   rcases List.mem_cons.mp hz with rfl|hz
   ·exact py
   ·exact hr z hz
  | false =>
   obtain ⟨r,s3,e5,hl,hr⟩:=eT S P ds env1 s1 hS1 rest
   exact ⟨r,s3,by simp only[Bool.false_eq_true,if_false,e5],by simp;omega,hr⟩
theorem lH {ws ws':List Nat} {env:DEnv} {s s0:Pen} {fm:List Nat} {i:Xi ws} {t:Xt ws'} {e:Xe ws'} {ds:List D} (P:D→Prop) (ei:i.p env s=.ok ds s0) (hl:ds.length≤100000)
  (body:∀x∈ds,∀s,∃b s1,t.p (some x::fm.map fun i=>(env[i]?).getD none) s=.ok b s1∧(b=true→∃y s2,e.p (some x::fm.map fun i=>(env[i]?).getD none) s1=.ok y s2∧P y)) (h0:ws'.contains 0=false:=by exact ys rfl) (hw:cws 1 fm ws=ws':=by exact ys rfl) (hz:e.fz=true:=by exact ys rfl) :
  ∃r s',(bE 1 fm i (xNm 0 h0) t e hw hz).p env s=.ok (.lst r) s'∧r.length≤ds.length∧∀y∈r,P y:=by
 obtain ⟨r,s',e1,h1,h2⟩:=eT (g:=(xNm 0 h0:Xg ws').p) (t:=t.p) (e:=e.p) (fun v=>∃z,v=z::fm.map fun i=>(env[i]?).getD none) P ds (cenv 1 fm env) s0 ⟨none,rfl⟩ fun x hx env' s ⟨z,hz⟩=>by
  subst hz
  obtain ⟨b,s1,e2,e3⟩:=body x hx s
  exact ⟨_,rfl,⟨some x,rfl⟩,b,s1,e2,e3⟩
 refine ⟨r,s',?_,h1,h2⟩
 rw[ii,ei,PR.bind_ok,if_pos hl,e1]
theorem bD {lo:Int} {c:Nat}:(rngD lo c).length=c:=by simp[rngD]
theorem jF {lo:Int} {c:Nat} {x:D} (h:x∈rngD lo c):∃i:Int,x=.int i∧lo≤i∧i<lo+c:=by
 unfold rngD at h
 obtain ⟨k,hk,rfl⟩:=List.mem_map.mp h
 rw[List.mem_range] at hk
 exact ⟨_,rfl,by omega,by omega⟩
theorem jW {c i:Nat} {x:D} (h:(rngD 0 c)[i]?=some x):x=.int (i:Int)∧i<c:=by
 unfold rngD at h
 rw[List.getElem?_map,Option.map_eq_some_iff] at h
 obtain ⟨k,hk,rfl⟩:=h
 obtain ⟨a,b⟩:=List.getElem?_eq_some_iff.mp hk
 simp at a b
 subst b
 exact ⟨by simp,a⟩
abbrev Prt:=Int × Int × Int
abbrev aH (p:Prt):D:=.tup [.int p.1,nD p.2.1 p.2.2]
def f7 (p:Prt):Prop:=0≤p.1∧p.1<13∧Six p.2.1 p.2.2
abbrev eqS:Str:=Str.ofString "="
abbrev spS:Str:=Str.ofString " "
abbrev nlS:Str:=Str.ofString "\n"
abbrev coS:Str:=Str.ofString ":"
abbrev baS:Str:=Str.ofString "|"
def aP (p:Prt):Str:=tS p.1++eqS++txt p.2.1 p.2.2
theorem eM {t b:Int} (h:Six t b):t.natAbs<10 ^ 300∧b.natAbs<10 ^ 300:=by
 obtain ⟨h1,h2,h3⟩:=h
 have e:1000001≤10 ^ 300:=by decide +kernel
 constructor <;> omega
theorem jY:eqS.length=1:=len1 rfl
theorem hV:spS.length=1:=len1 rfl
theorem mP:nlS.length=1:=len1 rfl
theorem j7:coS.length=1:=len1 rfl
theorem ba_len:baS.length=1:=len1 rfl
theorem iA {t b:Int} (h:Six t b):(txt t b).length≤17:=by
 obtain ⟨h1,h2,h3⟩:=h
 exact txt_len (k:=7) (by decide) (by omega) (by omega)
theorem gI {i:Int} (h0:0≤i) (h1:i<100):(tS i).length≤3:=cL (k:=2) (by decide) (by omega)
theorem jD {p:Prt} (h:f7 p):(aP p).length≤30:=by
 obtain ⟨h1,h2,h3⟩:=h
 have:=iA h3
 have:=gI h1 (by omega)
 unfold aP
 rw[strLen_append,strLen_append,jY];omega
theorem kF (p:Prt):PyData.strOk (aP p)=true:=dZ (dZ (bM _) (bM _)) (jQ _ _)
theorem j300 {i:Int} (h0:0≤i) (h1:i<100):i.natAbs<10 ^ 300:=by
 have e:1000001≤10 ^ 300:=by decide +kernel
 omega
def wD:D→D
 | .tup [.int j,.tup [.int t,.int b]]=>.str (aP (j,t,b))
 | d=>d
theorem iV (ps:List Prt):((ps.map aH).filter fun _=>true).map wD=(ps.map aP).map .str:=by
 rw[d5,List.map_map,List.map_map];rfl
theorem jv {p:Prt} (h:f7 p):cStr.p [.int p.1]=some (.str (tS p.1))∧aw.p (.str (tS p.1)) (.str eqS)=some (.str (tS p.1++eqS))∧aw.p (.str (tS p.1++eqS)) (.str (txt p.2.1 p.2.2))=some (.str (aP p)):=by
 obtain ⟨h1,h2,h3⟩:=h
 have z:=sz
 have a:=iA h3
 have b:=gI h1 (by omega)
 refine ⟨dS (j300 h1 (by omega)),bt (by rw[jY];omega),bt (by rw[strLen_append,jY];omega)⟩
theorem fN {ps:List Prt} {s:Pen} (hl:ps.length≤13) (h:∀p∈ps,f7 p):cD.p [.tup (ps.map aH)] s=.ok (.lst ((ps.map aP).map .str)) s:=by
 rw[i0 (by rfl)];unfold dW
 rw[show dSt 1 [D.tup (ps.map aH)]=[some (.tup (ps.map aH))] from rfl,cF,gR (ds:=ps.map aH) (fun _=>true) wD (by rfl) (by simp;omega) (fun x hx=>by
  obtain ⟨p,hp,rfl⟩:=List.mem_map.mp hx
  obtain ⟨e1,e2,e3⟩:=jv (h p hp)
  obtain ⟨a,b⟩:=eM (h p hp).2.2
  refine ⟨.int p.1,nD p.2.1 p.2.2,rfl,rfl,fun _=>?_⟩
  simp only[aV,dA,aA,aF,aJ,aY,PR.bind_ok,e1,PR.of_some,xC_p,cP,e2,bh,dr a (h p hp).2.2.2.1 b,e3]
  rfl),iV]
 rfl
theorem iR {ps:List Prt} {s:Pen} (hl:ps.length≤13) (h:∀p∈ps,f7 p):d4.p [.tup (ps.map aH)] s=.ok (.lst ((ps.map aP).map .str)) s:=by
 rw[lz (by rfl)];unfold fy
 rw[show dSt 1 [D.tup (ps.map aH)]=[some (.tup (ps.map aH))] from rfl,cF,gR (ds:=ps.map aH) (fun _=>true) wD (by rfl) (by simp;omega) (fun x hx=>by
  obtain ⟨p,hp,rfl⟩:=List.mem_map.mp hx
  obtain ⟨e1,e2,e3⟩:=jv (h p hp)
  obtain ⟨a,b⟩:=eM (h p hp).2.2
  refine ⟨.int p.1,nD p.2.1 p.2.2,rfl,rfl,fun _=>?_⟩
  simp only[aV,dA,aA,aF,aJ,aY,PR.bind_ok,e1,PR.of_some,xC_p,cP,e2,bh,gA a b,e3]
  rfl),iV]
 rfl
theorem sum_le {ts:List Str} {c:Nat} (h:∀x∈ts,x.length≤c):(ts.map (·.length)).sum≤ts.length * c:=by
 induction ts with
 | nil=>simp
 | cons x ts ih =>
  have h1:=h x (by simp)
  have h2:=ih fun y hy=>h y (List.mem_cons_of_mem _ hy)
  simp only[List.map_cons,List.sum_cons,List.length_cons,Nat.succ_mul]
  omega
theorem iM:∀ts:List Str,d8 (ts.map .str)=some ts
 | []=>rfl
 | x::ts=>by simp[d8,iM ts]
theorem mK {z:Str} {ts:List Str} {c m:Nat} (h:∀x∈ts,x.length≤c) (hl:ts.length≤m):(ts.map (·.length)).sum+ts.length * z.length≤m * (c+z.length):=by
 have h1:=sum_le h
 have h2:ts.length * (c+z.length)≤m * (c+z.length):=Nat.mul_le_mul_right _ hl
 rw[Nat.mul_add] at h2
 omega
theorem gk {z:Str} {ts:List Str} {c m:Nat} (h:∀x∈ts,x.length≤c) (hl:ts.length≤m) (hm:m * (c+z.length)≤1000000):bx.p z [.lst (ts.map .str)]=some (.str (Txt.join z ts)):=by
 show (match d8 (ts.map .str) with | some ts=>if JoinOk z ts=true then some (D.str (Txt.join z ts)) else none | none=>none)=_
 rw[iM]
 refine if_pos ?_
 unfold JoinOk
 rw[StrLaws.joinTotal]
 have:=mK (z:=z) h hl
 have:=sz
 simp only[Builtin.Str.tooLong,Bool.not_eq_true',decide_eq_false_iff_not]
 omega
theorem j3 {z:Str} {ts:List Str} {c m:Nat} (h:∀x∈ts,x.length≤c) (hl:ts.length≤m):(Txt.join z ts).length≤m * (c+z.length):=by
 show (Builtin.Str.glued z ts).length≤_
 rw[StrLaws.glued_eq_join]
 exact Nat.le_trans (StrLaws.join_length_le z ts) (mK h hl)
abbrev gi (rs:List (List Prt)):List D:=rs.map fun ps=>.tup (ps.map aH)
abbrev cj (n:Nat) (rs:List (List Prt)):D:=.tup [.int n,.tup (gi rs)]
def PsOk (ps:List Prt):Prop:=ps.length≤12∧∀p∈ps,f7 p
def line (i:Int) (ps:List Prt):Str:=Txt.join spS ((tS i++coS)::ps.map aP)
def lines (rs:List (List Prt)):List Str:=rs.zipIdx.map fun p=>line (p.2:Int) p.1
theorem hJ {i:Int} {ps:List Prt} (h0:0≤i) (h1:i<100) (h:PsOk ps):∀x∈(tS i++coS)::ps.map aP,x.length≤30:=fun x hx=>by
 rcases List.mem_cons.mp hx with rfl|hx
 ·rw[strLen_append,j7];have:=gI h0 h1;omega
 ·obtain ⟨p,hp,rfl⟩:=List.mem_map.mp hx
  exact jD (h.2 p hp)
theorem js {i:Int} {ps:List Prt} (h:PsOk ps):((tS i++coS)::ps.map aP).length≤13:=by simp;exact h.1
theorem nh {i:Int} {ps:List Prt} (h0:0≤i) (h1:i<100) (h:PsOk ps):(line i ps).length≤403:=by
 have:=j3 (z:=spS) (hJ h0 h1 h) (js h)
 rw[hV] at this
 exact this
theorem line_ok (i:Int) (ps:List Prt):PyData.strOk (line i ps)=true:=gf (bM _) _ fun x hx=>by
 rcases List.mem_cons.mp hx with rfl|hx
 ·exact dZ (bM _) (bM _)
 ·obtain ⟨p,hp,rfl⟩:=List.mem_map.mp hx
  exact kF p
theorem iX {i:Int} {ps:List Prt} (h0:0≤i) (h1:i<100) (h:PsOk ps):bx.p spS [.lst (((tS i++coS)::ps.map aP).map .str)]=some (.str (line i ps)) :=
 gk (hJ h0 h1 h) (js h) (by rw[hV];decide)
theorem iW {rs:List (List Prt)} {x:Str} (hx:x∈lines rs):∃(i:Nat) (ps:List Prt),x=line (i:Int) ps∧i<rs.length∧ps∈rs:=by
 unfold lines at hx
 obtain ⟨⟨ps,i⟩,hp,rfl⟩:=List.mem_map.mp hx
 have:=List.mem_zipIdx hp
 exact ⟨i,ps,rfl,by omega,by rw[this.2.2];exact List.getElem_mem _⟩
def ShOk (rs:List (List Prt)):Prop:=rs.length≤12∧∀ps∈rs,PsOk ps
theorem m8 {rs:List (List Prt)} (h:ShOk rs):∀x∈lines rs,x.length≤403:=fun x hx=>by
 obtain ⟨i,ps,rfl,h1,h2⟩:=iW hx
 exact nh (by omega) (by have:=h.1;omega) (h.2 ps h2)
theorem mR {rs:List (List Prt)}:(lines rs).length=rs.length:=by simp[lines]
theorem g6 {rs:List (List Prt)} (h:ShOk rs):bx.p nlS [.lst ((lines rs).map .str)]=some (.str (Txt.join nlS (lines rs))) :=
 gk (m8 h) (m:=12) (by rw[mR];exact h.1) (by rw[mP];decide)
theorem gu (rs:List (List Prt)):PyData.strOk (Txt.join nlS (lines rs))=true:=gf (bM _) _ fun x hx=>by
 obtain ⟨i,ps,rfl,_⟩:=iW hx
 exact line_ok _ _
def unD:D→Prt
 | .tup [.int j,.tup [.int t,.int b]]=>(j,t,b)
 | _=>(0,0,1)
theorem fR (ps:List Prt):(ps.map aH).map unD=ps:=by
 rw[List.map_map]
 exact (List.map_congr_left (g:=id) fun _ _=>rfl).trans (List.map_id _)
def lD:D→D
 | .tup [.int i,.tup ds]=>.str (line i (ds.map unD))
 | d=>d
theorem mj (rs:List (List Prt)):((fh (gi rs)).filter fun _=>true).map lD=(lines rs).map .str:=by
 rw[d5]
 unfold fh lines gi
 rw[List.zipIdx_map,List.map_map,List.map_map,List.map_map]
 refine List.map_congr_left fun p _=>?_
 show D.str (line (p.2:Int) ((p.1.map aH).map unD))=_
 rw[fR];rfl
theorem ixT1 {a b:D}:atI [a,b] 1=some b:=rfl
theorem ixT0 {a b:D}:atI [a,b] 0=some a:=rfl
theorem kY {x:Str} {ts:List Str} (h:ts.length≤99):aw.p (.lst [.str x]) (.lst (ts.map .str))=some (.lst ((x::ts).map .str)):=by
 rw[gB,ip (by simp;omega)];rfl
theorem fs_p {i:Int} (h0:0≤i) (h1:i<100):(oFs coS).p (.int i)=some (.str (tS i++coS)):=by
 have a:(Str.ofString (toString i)).length≤3:=gI h0 h1
 have z:=sz
 have e:(oFs coS).p (.int i)=some (.str (Str.empty++tS i++coS)):=if_pos ⟨lg (j300 h0 h1),by rw[fu];omega,by rw[strLen_append,fu,j7];omega⟩
 rw[e,fu]
theorem jG {n:Nat} {rs:List (List Prt)} {s:Pen} (h:ShOk rs):cC.p [cj n rs] s=.ok (.str (Txt.join nlS (lines rs))) s:=by
 rw[iZ (by rfl)];unfold dO
 rw[show dSt 1 [cj n rs]=[some (cj n rs)] from rfl,cF,ec,xC_p,PR.bind_ok]
 show ((PR.bind ((ae _ xNil).p [some (cj n rs)] s) fun y s2=>PR.of (bx.p nlS y) s2).go _ _).fin=_
 rw[aA,gR (ds:=fh (gi rs)) (fun _=>true) lD (by
  simp only[dR,aA,aV,aJ,PR.bind_ok,xC_p,bF,ls,ixT1,PR.of_some,aF];rfl) (by have:=h.1;simp[fh];omega) (fun x hx=>by
  unfold fh at hx
  obtain ⟨⟨d,i⟩,hp,rfl⟩:=List.mem_map.mp hx
  have hz:=List.mem_zipIdx hp
  have hi:i<rs.length:=by have:=hz.2.1;simpa using this
  have hd:d∈gi rs:=by rw[hz.2.2];exact List.getElem_mem _
  obtain ⟨ps,hps,rfl⟩:=List.mem_map.mp hd
  have hk:=h.2 ps hps
  have h12:=h.1
  refine ⟨.int (i:Int),.tup (ps.map aH),rfl,rfl,fun _=>?_⟩
  have e1:=fs_p (i:=(i:Int)) (by omega) (by omega)
  have e2:=fN (s:=s) (ps:=ps) (by have:=hk.1;omega) hk.2
  have e3:=kY (x:=tS (i:Int)++coS) (ts:=ps.map aP) (by have:=hk.1;simp;omega)
  have e4:=iX (i:=(i:Int)) (ps:=ps) (by omega) (by omega) hk
  simp only[ec,xC_p,cP,PR.bind_ok,aA,aV,dP,xUn_p,aJ,aY,e1,PR.of_some,aF,List.length_cons,List.length_nil,show (0+1:Nat)≤100000 by decide,if_true,bh,e2,e3,e4]
  show PR.ok (D.str (line (i:Int) ps)) s=PR.ok (D.str (line (i:Int) ((ps.map aH).map unD))) s
  rw[fR]),mj]
 simp only[PR.bind_ok,aF,g6 h,PR.of_some,PR.go_ok,PU.dX]
def l2D (rs:List (List Prt)):D→D
 | .int i=>.str (line i (rs.getD i.toNat []))
 | d=>d
theorem ku {n:Nat} {rs:List (List Prt)} (h:rs.length=n):((rngD 0 n).filter fun _=>true).map (l2D rs)=(lines rs).map .str:=by
 rw[d5]
 apply List.ext_getElem
 ·simp[lines,rngD,h]
 ·intro i h1 h2
  have hi:i<rs.length:=by simp[rngD] at h1;omega
  simp[rngD,lines,l2D,hi]
theorem ja {n:Nat} {rs:List (List Prt)} {s:Pen} (h:ShOk rs) (hn:rs.length=n):cH.p [cj n rs] s=.ok (.lst ((lines rs).map .str)) s:=by
 have h12:=h.1
 rw[gF (by rfl)];unfold cS
 rw[show dSt 1 [cj n rs]=[some (cj n rs)] from rfl,cF,comp1 (ds:=rngD 0 n) (fun _=>true) (l2D rs) (by
  simp only[dR,aA,aV,aJ,PR.bind_ok,xC_p,bF,ls,ixT0,PR.of_some,aF]
  rw[fY (by omega),Int.toNat_natCast];rfl) (by rw[bD];omega) (fun x hx=>by
  obtain ⟨i,rfl,hi0,hi1⟩:=jF hx
  obtain ⟨k,rfl⟩:=dN hi0
  have hk:k<rs.length:=by omega
  have hm:rs[k]∈rs:=List.getElem_mem _
  have hp:=h.2 _ hm
  refine ⟨rfl,fun _=>?_⟩
  have e0:atI (gi rs) (k:Int)=some (.tup (rs[k].map aH)):=L2.dL (by simp[hk])
  have e1:cStr.p [.int (k:Int)]=some (.str (tS (k:Int))):=dS (j300 (by omega) (by omega))
  have e1':aw.p (.str (tS (k:Int))) (.str coS)=some (.str (tS (k:Int)++coS)):=bt (by
   have:=gI (i:=(k:Int)) (by omega) (by omega)
   have:=sz
   rw[j7];omega)
  have e2:=iR (s:=s) (ps:=rs[k]) (by have:=hp.1;omega) hp.2
  have e3:=kY (x:=tS (k:Int)++coS) (ts:=rs[k].map aP) (by have:=hp.1;simp;omega)
  have e4:=iX (i:=(k:Int)) (ps:=rs[k]) (by omega) (by omega) hp
  show (xSm bx (xC (.str spS)) _:Xe []).p [some (.int (k:Int)),some (cj n rs)] s=_
  simp only[ec,xC_p,cP,bF,PR.bind_ok,aA,aV,dP,dA,aJ,aY,e1,e1',PR.of_some,aF,List.length_cons,List.length_nil,show (0+1:Nat)≤100000 by decide,if_true,bh,ls,ixT1,e0,e2,e3,e4]
  show PR.ok (D.str (line (k:Int) rs[k])) s=PR.ok (D.str (line (k:Int) (rs.getD (k:Int).toNat []))) s
  rw[Int.toNat_natCast,List.getD_eq_getElem?_getD,List.getElem?_eq_getElem hk];rfl),ku hn]
 simp only[PR.go_ok,PU.dX]
abbrev Rw:=List Prt × Int × Int
abbrev rowD (r:Rw):D:=.tup [.tup (r.1.map aH),nD r.2.1 r.2.2]
def RwOk (r:Rw):Prop:=PsOk r.1∧Six r.2.1 r.2.2
def rline (r:Rw):Str:=Txt.join spS (r.1.map aP++[baS,txt r.2.1 r.2.2])
theorem gp {r:Rw} (h:RwOk r):∀x∈r.1.map aP++[baS,txt r.2.1 r.2.2],x.length≤30:=fun x hx=>by
 rcases List.mem_append.mp hx with hx|hx
 ·obtain ⟨p,hp,rfl⟩:=List.mem_map.mp hx
  exact jD (h.1.2 p hp)
 ·simp only[List.mem_cons,List.not_mem_nil,or_false] at hx
  rcases hx with rfl|rfl
  ·rw[ba_len];decide
  ·have:=iA h.2;omega
theorem iC {r:Rw} (h:RwOk r):(r.1.map aP++[baS,txt r.2.1 r.2.2]).length≤14:=by
 have:=h.1.1
 simp;omega
theorem mV {r:Rw} (h:RwOk r):(rline r).length≤434:=by
 have:=j3 (z:=spS) (gp h) (iC h)
 rw[hV] at this
 exact this
theorem oi (r:Rw):PyData.strOk (rline r)=true:=gf (bM _) _ fun x hx=>by
 rcases List.mem_append.mp hx with hx|hx
 ·obtain ⟨p,hp,rfl⟩:=List.mem_map.mp hx
  exact kF p
 ·simp only[List.mem_cons,List.not_mem_nil,or_false] at hx
  rcases hx with rfl|rfl
  ·exact bM _
  ·exact jQ _ _
theorem g7 {r:Rw} (h:RwOk r):bx.p spS [.lst ((r.1.map aP++[baS,txt r.2.1 r.2.2]).map .str)]=some (.str (rline r)) :=
 gk (gp h) (iC h) (by rw[hV];decide)
theorem mr {x y:Str} {ts:List Str} (h:ts.length≤99):aw.p (.lst (ts.map .str)) (.lst [.str x,.str y])=some (.lst ((ts++[x,y]).map .str)):=by
 rw[gB,ip (by simp;omega)];simp
def rD:D→D
 | .tup [.tup ds,.tup [.int t,.int b]]=>.str (rline (ds.map unD,t,b))
 | d=>d
theorem gZ (rws:List Rw):((rws.map rowD).filter fun _=>true).map rD=(rws.map rline).map .str:=by
 rw[d5,List.map_map,List.map_map]
 refine List.map_congr_left fun r _=>?_
 show D.str (rline ((r.1.map aH).map unD,r.2.1,r.2.2))=_
 rw[fR];rfl
def RsOk (rws:List Rw):Prop:=rws.length≤20∧∀r∈rws,RwOk r
theorem iJ {rws:List Rw} (h:RsOk rws):bx.p nlS [.lst ((rws.map rline).map .str)]=some (.str (Txt.join nlS (rws.map rline))) :=
 gk (c:=434) (m:=20) (fun x hx=>by obtain ⟨r,hr,rfl⟩:=List.mem_map.mp hx;exact mV (h.2 r hr)) (by simp;exact h.1) (by rw[mP];decide)
theorem ij (rws:List Rw):PyData.strOk (Txt.join nlS (rws.map rline))=true:=gf (bM _) _ fun x hx=>by
 obtain ⟨r,_,rfl⟩:=List.mem_map.mp hx
 exact oi r
theorem gn {rws:List Rw} {s:Pen} (h:RsOk rws):bJ.p [.lst (rws.map rowD)] s=.ok (.str (Txt.join nlS (rws.map rline))) s:=by
 rw[jU (by rfl)];unfold eD
 rw[show dSt 1 [D.lst (rws.map rowD)]=[some (.lst (rws.map rowD))] from rfl,cF,ec,xC_p,PR.bind_ok]
 show ((PR.bind ((ae _ xNil).p [some (.lst (rws.map rowD))] s) fun y s2=>PR.of (bx.p nlS y) s2).go _ _).fin=_
 rw[aA,gR (ds:=rws.map rowD) (fun _=>true) rD (by rfl) (by have:=h.1;simp;omega) (fun x hx=>by
  obtain ⟨r,hr,rfl⟩:=List.mem_map.mp hx
  have hk:=h.2 r hr
  obtain ⟨a,b⟩:=eM hk.2
  refine ⟨.tup (r.1.map aH),nD r.2.1 r.2.2,rfl,rfl,fun _=>?_⟩
  have e2:=fN (s:=s) (ps:=r.1) (by have:=hk.1.1;omega) hk.1.2
  have e3:=mr (x:=baS) (y:=txt r.2.1 r.2.2) (ts:=r.1.map aP) (by have:=hk.1.1;simp;omega)
  have e4:=g7 hk
  simp only[ec,xC_p,cP,PR.bind_ok,aA,aV,dP,aJ,aY,PR.of_some,aF,List.length_cons,List.length_nil,show (0+1+1:Nat)≤100000 by decide,if_true,bh,e2,dr a hk.2.2.1 b,e3,e4]
  show PR.ok (D.str (rline r)) s=PR.ok (D.str (rline ((r.1.map aH).map unD,r.2.1,r.2.2))) s
  rw[fR]),gZ]
 simp only[PR.bind_ok,aF,iJ h,PR.of_some,PR.go_ok,PU.dX]
theorem kf {rws:List Rw} {s:Pen} (h:RsOk rws):cY.p [.lst (rws.map rowD)] s=.ok (.lst ((rws.map rline).map .str)) s:=by
 rw[gL (by rfl)];unfold da
 rw[show dSt 1 [D.lst (rws.map rowD)]=[some (.lst (rws.map rowD))] from rfl,cF,gR (ds:=rws.map rowD) (fun _=>true) rD (by rfl) (by have:=h.1;simp;omega) (fun x hx=>by
  obtain ⟨r,hr,rfl⟩:=List.mem_map.mp hx
  have hk:=h.2 r hr
  obtain ⟨a,b⟩:=eM hk.2
  refine ⟨.tup (r.1.map aH),nD r.2.1 r.2.2,rfl,rfl,fun _=>?_⟩
  have e2:=iR (s:=s) (ps:=r.1) (by have:=hk.1.1;omega) hk.1.2
  have e3:=mr (x:=baS) (y:=txt r.2.1 r.2.2) (ts:=r.1.map aP) (by have:=hk.1.1;simp;omega)
  have e4:=g7 hk
  simp only[ec,xC_p,cP,PR.bind_ok,aA,aV,dP,aJ,aY,PR.of_some,aF,List.length_cons,List.length_nil,show (0+1+1:Nat)≤100000 by decide,if_true,bh,e2,gA a b,e3,e4]
  show PR.ok (D.str (rline r)) s=PR.ok (D.str (rline ((r.1.map aH).map unD,r.2.1,r.2.2))) s
  rw[fR]),gZ]
 simp only[PR.go_ok,PU.dX]
theorem kO {ws:List Nat} {env:DEnv} {s s1:Pen} {o:OpM} {i:Nat} {a:Xs ws} {hi:ws.contains i=true} {hz:a.fz=true} {as ds ds':List D} {r:D} (e1:a.p env s=.ok as s1) (e2:env[i]?=some (some (.lst ds))) (e3:o.p ds as=some (r,ds')):(xMt o i a hi hz).p env s=.nx (env.set i (some (.lst ds'))) s1:=by
 rw[xMt_p,lV e1 e2 e3]
theorem m4 {g:D→DEnv→Option DEnv} {t:DEnv→Pen→PR Bool} {e:DEnv→Pen→PR D} (S:DEnv→Prop) (P:D→Prop):∀(ds:List D) (env:DEnv) (s:Pen),S env →
  (∀x∈ds,∀env s,S env→∃env1,g x env=some env1∧S env1∧t env1 s=.ok true s∧∃y s2,e env1 s=.ok y s2∧P y)→∃r s',bN g t e ds env s=.ok r s'∧r.length=ds.length∧∀y∈r,P y:=by
 intro ds
 induction ds with
 | nil=>intro env s hS body;exact ⟨[],s,rfl,rfl,by simp⟩
 | cons x ds ih =>
  intro env s hS body
  obtain ⟨env1,e1,hS1,e2,y,s2,e4,py⟩:=body x (by simp) env s hS
  obtain ⟨r,s3,e5,hl,hr⟩:=ih env1 s2 hS1 fun y hy=>body y (List.mem_cons_of_mem x hy)
  refine ⟨y::r,s3,?_,by simp[hl],fun z hz=>?_⟩
  ·rw[bN,e1]
   dsimp only
   rw[e2,PR.bind_ok]
   simp only[if_true,e4,PR.bind_ok,e5]
  ·rcases List.mem_cons.mp hz with rfl|hz
   ·exact py
   ·exact hr z hz
theorem iF {ws ws':List Nat} {env:DEnv} {s s0:Pen} {fm:List Nat} {i:Xi ws} {e:Xe ws'} {ds:List D} (P:D→Prop) (ei:i.p env s=.ok ds s0) (hl:ds.length≤100000)
  (body:∀x∈ds,∀s,∃y s2,e.p (some x::fm.map fun i=>(env[i]?).getD none) s=.ok y s2∧P y) (h0:ws'.contains 0=false:=by exact ys rfl) (hw:cws 1 fm ws=ws':=by exact ys rfl) (hz:e.fz=true:=by exact ys rfl) :
  ∃r s',(bE 1 fm i (xNm 0 h0) xTrue e hw hz).p env s=.ok (.lst r) s'∧r.length=ds.length∧∀y∈r,P y:=by
 obtain ⟨r,s',e1,h1,h2⟩:=m4 (g:=(xNm 0 h0:Xg ws').p) (t:=(xTrue:Xt ws').p) (e:=e.p) (fun v=>∃z,v=z::fm.map fun i=>(env[i]?).getD none) P ds (cenv 1 fm env) s0 ⟨none,rfl⟩ fun x hx env' s ⟨z,hz⟩=>by
  subst hz
  obtain ⟨y,s1,e2,e3⟩:=body x hx s
  exact ⟨_,rfl,⟨some x,rfl⟩,rfl,y,s1,e2,e3⟩
 refine ⟨r,s',?_,h1,h2⟩
 rw[ii,ei,PR.bind_ok,if_pos hl,e1]
theorem lP {α:Type} {f:α→D} {Q:α→Prop}:∀{ys:List D},(∀y∈ys,∃p,y=f p∧Q p)→∃ps:List α,ys=ps.map f∧∀p∈ps,Q p:=by
 intro ys
 induction ys with
 | nil=>intro _;exact ⟨[],rfl,by simp⟩
 | cons y ys ih =>
  intro h
  obtain ⟨ps,e,hp⟩:=ih fun y hy=>h y (List.mem_cons_of_mem _ hy)
  obtain ⟨p,rfl,h1⟩:=h y (by simp)
  refine ⟨p::ps,by rw[e];rfl,fun k hk=>?_⟩
  rcases List.mem_cons.mp hk with rfl|hk
  ·exact h1
  ·exact hp k hk
theorem kQ {n:Nat} {s:Pen} (hn:n≤12):∃ps s',bT.p [.pen,.int (n:Int)] s=.ok (.tup (ps.map aH)) s'∧PsOk ps:=by
 obtain ⟨d,s1,d0,d1,q1⟩:=bj (s:=s) (size:=4) (by decide) (by decide)
 obtain ⟨r,s2,q2,hl,hr⟩:=lH (ws:=[]) (ws':=[]) (env:=[some .pen,some (.int (n:Int)),some (.int (1+d))]) (s:=s1) (s0:=s1) (fm:=[0,2]) (i:=xItA iR1 (ae (xVar 1) xNil))
  (t:=xB (xBin oEq (am aB (ae (xVar 1) (ae (xVar 2) xNil))) (xC (.int 0)))) (e:=xTup (ae (xVar 0) (ae (am aM (ae (xVar 1) xNil)) xNil))) (ds:=rngD 0 n) (fun y=>∃p,y=aH p∧f7 p) (by
   simp only[dR,aA,aJ,aY,PR.bind_ok,aF]
   rw[fY (by omega),Int.toNat_natCast];rfl) (by rw[bD];omega) (fun x hx s=>by
   obtain ⟨i,rfl,hi0,hi1⟩:=jF hx
   obtain ⟨g,s3,g0,g1,q3⟩:=bj (s:=s) (size:=1+d) (by omega) (by omega)
   obtain ⟨t,b,s4,q4,h6⟩:=eV (s:=s3)
   refine ⟨decide (g=0),s3,?_,fun _=>⟨aH (i,t,b),s4,?_,(i,t,b),rfl,hi0,by show i<13;omega,h6⟩⟩
   ·show (xB (xBin oEq (am aB (ae (xVar 1) (ae (xVar 2) xNil))) (xC (.int 0))):Xt []).p [some (.int i),some .pen,some (.int (1+d))] s=_
    simp[q3,PR.bl]
   ·show (xTup (ae (xVar 0) (ae (am aM (ae (xVar 1) xNil)) xNil)):Xe []).p [some (.int i),some .pen,some (.int (1+d))] s3=_
    simp[q4])
 obtain ⟨ps,rfl,hp⟩:=lP hr
 refine ⟨ps,s2,?_,by rw[bD,List.length_map] at hl;omega,hp⟩
 rw[lw (by rfl)];unfold fL
 rw[show dSt 3 [D.pen,.int (n:Int)]=[some .pen,some (.int (n:Int)),none] from rfl]
 simp only[bV,dn,aV,xC_p,bF,bh,aA,aJ,aF,PR.bind_ok,q1,ox,PR.of_some,PR.go_ok,List.set_cons_succ,List.set_cons_zero,PU.aK,cF,dA]
 rw[q2]
 simp
theorem sheet_p {s:Pen}:∃n rs s',fF.p [.pen] s=.ok (cj n rs) s'∧ShOk rs∧rs.length=n:=by
 obtain ⟨a,s1,a0,a1,q1⟩:=bj (s:=s) (size:=13) (by decide) (by decide)
 obtain ⟨b,s2,b0,b1,q2⟩:=bj (s:=s1) (size:=4) (by decide) (by decide)
 obtain ⟨c,s3,c0,c1,q3⟩:=bj (s:=s2) (size:=2) (by decide) (by decide)
 obtain ⟨n,en,hn⟩:∃n:Nat,atI [D.int a,.int b] c=some (.int (n:Int))∧n≤12:=by
  obtain rfl|rfl:c=0∨c=1:=by omega
  ·obtain ⟨n,rfl⟩:=dN a0;exact ⟨n,rfl,by omega⟩
  ·obtain ⟨n,rfl⟩:=dN b0;exact ⟨n,rfl,by omega⟩
 obtain ⟨r,s4,q4,hl,hr⟩:=iF (ws:=[]) (ws':=[]) (env:=[some .pen,some (.int (n:Int))]) (s:=s3) (s0:=s3) (fm:=[0,1]) (i:=xItA iR1 (ae (xVar 1) xNil))
  (e:=am bT (ae (xVar 1) (ae (xVar 2) xNil))) (ds:=rngD 0 n) (fun y=>∃ps:List Prt,y=.tup (ps.map aH)∧PsOk ps) (by
   simp only[dR,aA,aJ,aY,PR.bind_ok,aF]
   rw[fY (by omega),Int.toNat_natCast];rfl) (by rw[bD];omega) (fun x hx s=>by
   obtain ⟨ps,s5,q5,hp⟩:=kQ (s:=s) hn
   refine ⟨.tup (ps.map aH),s5,?_,ps,rfl,hp⟩
   show (am bT (ae (xVar 1) (ae (xVar 2) xNil)):Xe []).p [some x,some .pen,some (.int (n:Int))] s=_
   simp[q5])
 obtain ⟨rs,rfl,hp⟩:=lP hr
 have el:rs.length=n:=by rw[bD,List.length_map] at hl;exact hl
 refine ⟨n,rs,s4,?_,⟨by omega,hp⟩,el⟩
 rw[ly (by rfl)];unfold fI
 rw[show dSt 2 [D.pen]=[some .pen,none] from rfl]
 simp only[bV,dn,aV,dP,xC_p,bF,bh,aA,aJ,aF,PR.bind_ok,q1,q2,q3,List.length_cons,List.length_nil,show (0+1+1:Nat)≤100000 by decide,if_true,oIx_l,en,PR.of_some,PR.go_ok,List.set_cons_succ,List.set_cons_zero,PU.aK,cF,jy,dA,aY]
 rw[q4]
 simp
theorem rows_p {n:Nat} {s:Pen} (hn:n≤12):∃rws s',gE.p [.pen,.int (n:Int)] s=.ok (.lst (rws.map rowD)) s'∧RsOk rws:=by
 obtain ⟨a,s1,a0,a1,q1⟩:=bj (s:=s) (size:=6) (by decide) (by decide)
 obtain ⟨b,s2,b0,b1,q2⟩:=bj (s:=s1) (size:=21) (by decide) (by decide)
 obtain ⟨c,s3,c0,c1,q3⟩:=bj (s:=s2) (size:=3) (by decide) (by decide)
 obtain ⟨m,em,hm⟩:∃m:Nat,atI [D.int a,.int 20,.int b] c=some (.int (m:Int))∧m≤20:=by
  obtain rfl|rfl|rfl:c=0∨c=1∨c=2:=by omega
  ·obtain ⟨n,rfl⟩:=dN a0;exact ⟨n,rfl,by omega⟩
  ·exact ⟨20,rfl,by omega⟩
  ·obtain ⟨n,rfl⟩:=dN b0;exact ⟨n,rfl,by omega⟩
 obtain ⟨env',s4,q4,z1,z2,rws,hE,hlen,hok⟩:=gh (g:=(xNm 4:Xg [3]).p) (b:=(xSeq (xSet 5 (am aM (ae (xVar 0) xNil)))
   (xSeq (xIf (xB (xBin oEq (am aB (ae (xVar 0) (ae (xC (.int 4)) xNil))) (xC (.int 0)))) (xSet 5 (xTup (ae (xC (.int 0)) (ae (xC (.int 1)) xNil)))) xSkip)
   (xMt im 3 (ae (xTup (ae (am bT (ae (xVar 0) (ae (xVar 1) xNil))) (ae (xVar 5) xNil))) xNil))):Xd [3]).p)
  (fun j env _=>∃z1 z2,∃rws:List Rw,env=[some .pen,some (.int (n:Int)),some (.int (m:Int)),some (.lst (rws.map rowD)),z1,z2]∧rws.length=j∧∀r∈rws,RwOk r) (rngD 0 m) 0 [some .pen,some (.int (n:Int)),some (.int (m:Int)),some (.lst []),none,none] s3 ⟨none,none,[],rfl,rfl,by simp⟩ (fun j env s d ⟨z1,z2,rws,hE,hlen,hok⟩ hd=>by
   subst hE
   obtain ⟨rfl,hj⟩:=jW hd
   obtain ⟨t,b,s5,q5,h6⟩:=eV (s:=s)
   obtain ⟨g,s6,g0,g1,q6⟩:=bj (s:=s5) (size:=4) (by decide) (by decide)
   obtain ⟨ps,s7,q7,hp⟩:=kQ (s:=s6) hn
   obtain ⟨t',b',et,h6'⟩:∃t' b':Int,(if g=0 then nD 0 1 else nD t b)=nD t' b'∧Six t' b':=by
    split
    ·exact ⟨0,1,rfl,by decide,by decide,by decide⟩
    ·exact ⟨t,b,rfl,h6⟩
   refine ⟨[some .pen,some (.int (n:Int)),some (.int (m:Int)),some (.lst (rws.map rowD)),some (.int (j:Int)),z2],[some .pen,some (.int (n:Int)),some (.int (m:Int)),some (.lst ((rws++[(ps,t',b')]).map rowD)),some (.int (j:Int)),some (nD t' b')],s7,rfl,?_,_,_,rws++[(ps,t',b')],rfl,by simp[hlen],fun r hr=>?_⟩
   ·have e1:(xIf (xB (xBin oEq (am aB (ae (xVar 0) (ae (xC (.int 4)) xNil))) (xC (.int 0)))) (xSet 5 (xTup (ae (xC (.int 0)) (ae (xC (.int 1)) xNil)))) xSkip:Xd [3]).p [some .pen,some (.int (n:Int)),some (.int (m:Int)),some (.lst (rws.map rowD)),some (.int (j:Int)),some (nD t b)] s5=.nx [some .pen,some (.int (n:Int)),some (.int (m:Int)),some (.lst (rws.map rowD)),some (.int (j:Int)),some (nD t' b')] s6:=by
     by_cases z:g=0
     ·rw[if_pos z] at et
      simp[q6,PR.bl,z,←et]
     ·rw[if_neg z] at et
      simp[q6,PR.bl,z,←et]
    simp only[bV,dn,bh,aA,aJ,aF,PR.bind_ok,q5,PR.go_ok,List.set_cons_succ,List.set_cons_zero,PU.aK]
    rw[e1,PU.aK,kO (s1:=s7) (as:=[rowD (ps,t',b')]) (ds:=rws.map rowD) (ds':=(rws++[(ps,t',b')]).map rowD) (r:=.non) (by simp[q7]) rfl (by
     rw[mk (by simp;omega)];simp)]
    rfl
   ·rcases List.mem_append.mp hr with hr|hr
    ·exact hok r hr
    ·have:r=(ps,t',b'):=by simpa using hr
     subst this
     exact ⟨hp,h6'⟩)
 rw[bD,Nat.zero_add] at hlen
 subst hE
 refine ⟨rws,s4,?_,by omega,hok⟩
 rw[mI (by rfl)];unfold gv
 rw[show dSt 6 [D.pen,.int (n:Int)]=[some .pen,some (.int (n:Int)),none,none,none,none] from rfl]
 simp only[bV,dn,kE,aV,dP,xC_p,bF,bh,aA,aJ,aF,PR.bind_ok,q1,q2,q3,List.length_cons,List.length_nil,show (0+1+1+1:Nat)≤100000 by decide,Nat.zero_le,if_true,oIx_l,em,PR.of_some,PR.go_ok,List.set_cons_succ,List.set_cons_zero,PU.aK,j9,dR,aY]
 rw[fY (by omega),Int.toNat_natCast,PR.of_some,PR.go_ok]
 refine (congrArg (fun z:PS=>(z.then _).fin) q4).trans ?_
 rw[PU.aK,xRetO_p (d:=.lst (rws.map rowD)) rfl,PU.dX]
def Fine (p:Int × Int):Prop:=p.1.natAbs<10 ^ 300∧1≤p.2∧p.2.natAbs<10 ^ 300
abbrev numD (p:Int × Int):D:=nD p.1 p.2
theorem lM {a b c d:Int} {j:Nat} {s:Pen} (hj:j<39) (ha:a.natAbs≤10 ^ (6 * j)) (hb:1≤b) (hb2:b≤10 ^ (6 * j)) (h:Six c d):∃t' b':Int,eN.p [nD a b,nD c d] s=.ok (nD t' b') s∧t'.natAbs≤10 ^ (6 * (j+1))∧1≤b'∧b'≤10 ^ (6 * (j+1)):=by
 obtain ⟨h1,h2,h3⟩:=h
 have e6:(10:Int) ^ (6 * (j+1))=10 ^ (6 * j) * 1000000:=by rw[show 6 * (j+1)=6 * j+6 by omega,Int.pow_add];rfl
 have e6':(10:Nat) ^ (6 * (j+1))=10 ^ (6 * j) * 1000000:=by rw[show 6 * (j+1)=6 * j+6 by omega,Nat.pow_add]
 have m1:b * d≤10 ^ (6 * (j+1)):=by
  rw[e6]
  exact Int.mul_le_mul hb2 h3 (by omega) (by omega)
 have m2:(10:Int) ^ (6 * (j+1))<2 ^ 1990:=by
  have:(10:Nat) ^ (6 * (j+1))≤10 ^ 240:=Nat.pow_le_pow_right (by decide) (by omega)
  have k:(10:Nat) ^ 240<2 ^ 1990:=by decide +kernel
  have:=Int.ofNat_lt.mpr (Nat.lt_of_le_of_lt this k)
  simpa using this
 obtain ⟨t',b',q,g1,g2,g3⟩:=times_p (a:=a) (b:=b) (c:=c) (d:=d) (s:=s) hb h2 (by omega) (by omega) (Int.lt_of_le_of_lt m1 m2)
 refine ⟨t',b',q,?_,g2,Int.le_trans g3 m1⟩
 rw[Int.natAbs_mul] at g1
 rw[e6']
 exact Nat.le_trans g1 (Nat.mul_le_mul ha h1)
noncomputable abbrev numB:Xd [9]:=xIf (xNot (xB (am bH (ae (am bp (ae (xVar 5) xNil)) (ae (am cZ (ae (xVar 5) xNil)) xNil))))) (xRet (xC (.bl false))) xSkip
theorem ny {p:Int × Int} {g z4:Option D} {s:Pen} (h:Fine p):numB.p [none,none,some .pen,g,z4,some (numD p),none,none,none,none] s=.nx [none,none,some .pen,g,z4,some (numD p),none,none,none,none] s:=by
 obtain ⟨h1,h2,h3⟩:=h
 simp[numB,dr h1 h2 h3,gA h1 h3,fH (jQ p.1 p.2),PR.bl]
def Nice (k:Nat) (d:D):Prop:=∃x,py d=some x∧dep d≤k∧x.canLay0=true∧x.depth≤k
theorem ju {i:Int} {k:Nat}:Nice k (.int i):=⟨.int i,rfl,by simp[dep],rfl,by simp[PyData.depth]⟩
theorem jH {k:Nat} {ds:List D} (h:∀d∈ds,Nice k d):∃xs,pys ds=some xs∧deps ds≤k∧PyData.canLayAll0 xs=true∧PyData.depthAll xs≤k:=by
 induction ds with
 | nil=>exact ⟨[],rfl,by simp[deps],rfl,by simp[PyData.depthAll]⟩
 | cons d ds ih =>
  obtain ⟨xs,a1,a2,a3,a4⟩:=ih fun d hd=>h d (List.mem_cons_of_mem _ hd)
  obtain ⟨x,b1,b2,b3,b4⟩:=h d (by simp)
  exact ⟨x::xs,by simp[pys,a1,b1],by simp only[deps];omega,by simp[PyData.canLayAll0,a3,b3],by simp only[PyData.depthAll];omega⟩
theorem eX {k:Nat} {ds:List D} (h:∀d∈ds,Nice k d):Nice (k+1) (.tup ds):=by
 obtain ⟨xs,a1,a2,a3,a4⟩:=jH h
 exact ⟨.tuple xs,by simp[py,a1],by simp only[dep];omega,by simpa [PyData.canLay0] using a3,by simp only[PyData.depth];omega⟩
theorem nL {k:Nat} {ds:List D} (h:∀d∈ds,Nice k d):Nice (k+1) (.lst ds):=by
 obtain ⟨xs,a1,a2,a3,a4⟩:=jH h
 exact ⟨.list xs,by simp[py,a1],by simp only[dep];omega,by simpa [PyData.canLay0] using a3,by simp only[PyData.depth];omega⟩
theorem nice_eq {d:D} (h:Nice 60 d):eqD true d d=some (.bl false):=by
 obtain ⟨x,a1,a2,a3,a4⟩:=h
 unfold eqD
 rw[a1]
 dsimp only
 rw[if_pos ⟨⟨a2,a2⟩,iK a3 (by omega),iK a3 (by omega)⟩,SeqAt.eqv_refl x a3]
 rfl
theorem jR {k:Nat} {t b:Int}:Nice (k+1) (nD t b):=eX fun d hd=>by
 simp only[List.mem_cons,List.not_mem_nil,or_false] at hd
 rcases hd with rfl|rfl <;> exact ju
theorem mH {k:Nat} {p:Prt}:Nice (k+1+1) (aH p):=eX fun d hd=>by
 simp only[List.mem_cons,List.not_mem_nil,or_false] at hd
 rcases hd with rfl|rfl
 ·exact ju
 ·exact jR
theorem nC {k:Nat} {r:Rw}:Nice (k+1+1+1+1) (rowD r):=eX fun d hd=>by
 simp only[List.mem_cons,List.not_mem_nil,or_false] at hd
 rcases hd with rfl|rfl
 ·exact eX fun d hd=>by
   obtain ⟨p,_,rfl⟩:=List.mem_map.mp hd
   exact mH
 ·exact jR
theorem ne_rows {rws:List Rw}:eqD true (.lst (rws.map rowD)) (.lst (rws.map rowD))=some (.bl false):=nice_eq (nL (k:=59) fun d hd=>by
 obtain ⟨r,_,rfl⟩:=List.mem_map.mp hd
 exact nC (k:=55))
theorem fine_of {t b:Int} (h:Six t b):Fine (t,b):=⟨(eM h).1,h.2.1,(eM h).2⟩
theorem body_p {s:Pen}:∃env' s',dl.p [none,none,some .pen,none,none,none,none,none,none,none] s=.nx env' s':=by
 obtain ⟨m,s1,m0,m1,q1⟩:=bj (s:=s) (size:=40) (by decide) (by decide)
 obtain ⟨m,rfl⟩:=dN m0
 obtain ⟨e2,s2,q2,z4,t,b,rfl,ht,hb,hb2⟩:=gh (g:=(xNm 4:Xg [9]).p) (b:=(xSet 3 (am eN (ae (xVar 3) (ae (am aM (ae (xVar 2) xNil)) xNil))):Xd [9]).p)
  (fun j env _=>∃z4,∃t b:Int,env=[none,none,some .pen,some (nD t b),z4,none,none,none,none,none]∧t.natAbs≤10 ^ (6 * j)∧1≤b∧b≤10 ^ (6 * j)) (rngD 0 m) 0 [none,none,some .pen,some (nD 1 1),none,none,none,none,none,none] s1 ⟨none,1,1,rfl,by decide,by decide,by decide⟩ (fun j env s d ⟨z4,t,b,hE,ht,hb,hb2⟩ hd=>by
   rw[Nat.zero_add] at ht hb2 ⊢
   subst hE
   obtain ⟨rfl,hj⟩:=jW hd
   obtain ⟨c,d,s5,q5,h6⟩:=eV (s:=s)
   obtain ⟨t',b',q6,k1,k2,k3⟩:=lM (s:=s5) (j:=j) (by omega) ht hb hb2 h6
   exact ⟨[none,none,some .pen,some (nD t b),some (.int (j:Int)),none,none,none,none,none],[none,none,some .pen,some (nD t' b'),some (.int (j:Int)),none,none,none,none,none],s5,rfl,by simp[q5,q6],_,t',b',rfl,k1,k2,k3⟩)
 rw[bD,Nat.zero_add] at ht hb2
 have hf:Fine (t,b):=by
  have k1:(10:Nat) ^ (6 * m)≤10 ^ 240:=Nat.pow_le_pow_right (by decide) (by omega)
  have k2:(10:Nat) ^ 240<10 ^ 300:=by decide +kernel
  refine ⟨by show t.natAbs<_;omega,hb,?_⟩
  show b.natAbs<_
  have e:((b.natAbs:Nat):Int)≤((10 ^ (6 * m):Nat):Int):=by rw[show ((b.natAbs:Nat):Int)=b by omega];simpa using hb2
  have:=Int.ofNat_le.mp e
  omega
 obtain ⟨r,s3,q3,hl0,hr⟩:=iF (ws:=[9]) (ws':=[]) (env:=[none,none,some .pen,some (nD t b),z4,none,none,none,none,none]) (s:=s2) (s0:=s2) (fm:=[2]) (i:=xItA iR1 (ae (xC (.int 6)) xNil))
  (e:=am aM (ae (xVar 1) xNil)) (ds:=rngD 0 6) (fun y=>∃p:Int × Int,y=numD p∧Fine p) (by
   simp only[dR,aA,xC_p,bF,PR.bind_ok,aF]
   rw[fY (by omega)];rfl) (by rw[bD];omega) (fun x hx s=>by
   obtain ⟨t,b,s5,q5,h6⟩:=eV (s:=s)
   refine ⟨nD t b,s5,?_,(t,b),rfl,fine_of h6⟩
   show (am aM (ae (xVar 1) xNil):Xe []).p [some x,some .pen] s=_
   simp[q5])
 have hl:r.length≤6:=by rw[bD] at hl0;omega
 have hall:∀y∈[nD 0 1,nD 1 1,nD (-1) 1,nD t b]++r,∃p:Int × Int,y=numD p∧Fine p:=fun y hy=>by
  have k2:(1:Nat)<10 ^ 300:=by decide +kernel
  rcases List.mem_append.mp hy with hy|hy
  ·simp only[List.mem_cons,List.not_mem_nil,or_false] at hy
   rcases hy with rfl|rfl|rfl|rfl
   ·exact ⟨(0,1),rfl,by show (0:Nat)<_;omega,by decide,by show (1:Nat)<_;exact k2⟩
   ·exact ⟨(1,1),rfl,by show (1:Nat)<_;exact k2,by decide,by show (1:Nat)<_;exact k2⟩
   ·exact ⟨(-1,1),rfl,by show (1:Nat)<_;exact k2,by decide,by show (1:Nat)<_;exact k2⟩
   ·exact ⟨(t,b),rfl,hf⟩
  ·exact hr y hy
 obtain ⟨e4,s4,q4,z5,rfl⟩:=gh (g:=(xNm 5:Xg [9]).p) (b:=numB.p)
  (fun _ env _=>∃z5,env=[none,none,some .pen,some (nD t b),z4,z5,none,none,none,none]) ([nD 0 1,nD 1 1,nD (-1) 1,nD t b]++r) 0 [none,none,some .pen,some (nD t b),z4,none,none,none,none,none] s3 ⟨none,rfl⟩ (fun j env s d ⟨z5,hE⟩ hd=>by
   subst hE
   obtain ⟨p,rfl,hp⟩:=hall d (List.mem_of_getElem? hd)
   exact ⟨[none,none,some .pen,some (nD t b),z4,some (numD p),none,none,none,none],_,s,rfl,ny hp,_,rfl⟩)
 obtain ⟨n,rs,s5,q5,hS,hn⟩:=sheet_p (s:=s4)
 obtain ⟨k,s6,k0,k1,q6⟩:=bj (s:=s5) (size:=13) (by decide) (by decide)
 obtain ⟨k,rfl⟩:=dN k0
 obtain ⟨rws,s7,q7,hR⟩:=rows_p (s:=s6) (n:=k) (by omega)
 have em:Txt.join nlS ([]:List Str)=Str.ofString "":=by
  show Builtin.Str.glued nlS []=_
  rw[StrLaws.glued_eq_join,Str.ofString_eq_toList];rfl
 have hR0:RsOk []:=⟨by decide,by simp⟩
 have ok0:PyData.strOk (Str.ofString "")=true:=bM _
 have w0:bJ.p [.lst []] s7=.ok (.str (Str.ofString "")) s7:=by
  have:=gn (s:=s7) hR0
  rw[show ([]:List Rw).map rline=[] from rfl,em] at this
  exact this
 refine ⟨[none,none,some .pen,some (nD t b),z4,z5,some (cj n rs),some (.str (Txt.join nlS (rws.map rline))),some (.lst (rws.map rowD)),some (.lst [])],s7,?_⟩
 unfold dl
 simp only[bV,dn,jy,aA,xC_p,bF,aF,PR.bind_ok,List.length_cons,List.length_nil,show (0+1+1:Nat)≤100000 by decide,if_true,PR.go_ok,List.set_cons_succ,List.set_cons_zero,PU.aK,j9,dR,bh,aY,aJ,q1]
 rw[fY (by omega),Int.toNat_natCast,PR.of_some,PR.go_ok]
 refine (congrArg (fun z:PS=>z.then _) q2).trans ?_
 simp only[PU.aK,bV,j9,xItS_p,aV,dP,jy,aA,xC_p,bF,aF,PR.bind_ok,List.length_cons,List.length_nil,show (0+1+1:Nat)≤100000 by decide,show (0+1+1+1+1:Nat)≤100000 by decide,if_true,xUn_p,aY,aJ]
 have n1:oNeg.p (.int 1)=some (.int (-1)):=rfl
 have n2:aw.p (.lst [nD 0 1,nD 1 1,nD (-1) 1,nD t b]) (.lst r)=some (.lst ([nD 0 1,nD 1 1,nD (-1) 1,nD t b]++r)):=by
  rw[gB,ip (by simp;omega)]
 have n3:∀xs:List D,(D.lst xs).items=some xs:=fun _=>rfl
 simp only[n1,PR.of_some,PR.bind_ok,List.length_cons,List.length_nil,show (0+1+1:Nat)≤100000 by decide,show (0+1+1+1+1:Nat)≤100000 by decide,if_true]
 rw[q3]
 simp only[PR.bind_ok,n2,PR.of_some,n3,PR.go_ok]
 refine (congrArg (fun z:PS=>z.then _) q4).trans ?_
 have w1:=ja (s:=s5) hS hn
 have w2:=g6 hS
 have w3:=jG (s:=s5) (n:=n) hS
 have w4:=fH (s:=s5) (gu rs)
 have w5:eqD true (.str (Txt.join nlS (lines rs))) (.str (Txt.join nlS (lines rs)))=some (.bl false):=by rw[gQ (gu rs) (gu rs)];simp
 have v1:=kf (s:=s7) hR
 have v2:=iJ hR
 have v3:=gn (s:=s7) hR
 have v4:=fH (s:=s7) (ij rws)
 have v5:eqD true (.str (Txt.join nlS (rws.map rline))) (.str (Txt.join nlS (rws.map rline)))=some (.bl false):=by rw[gQ (ij rws) (ij rws)];simp
 have v6:lL.p [.lst (rws.map rowD)]=some (.lst (rws.map rowD)):=cList_l (by have:=hR.1;simp;omega)
 have v7:eqD true (.str (Str.ofString "")) (.str (Str.ofString ""))=some (.bl false):=by rw[gQ ok0 ok0];simp
 have ld:∀x:Str,lend (.str x)=true:=fun _=>rfl
 have v8:∀xs:List D,na.p xs []=some (.non,[]):=fun _=>rfl
 simp only[PU.aK,bV,dn,bh,aA,aY,aJ,aF,PR.bind_ok,q5,PR.go_ok,List.set_cons_succ,List.set_cons_zero,ec,xC_p,cP,w1,w2,PR.of_some,xIf_p,xOr_p,xNot_p,xB_p,w3,w4,PR.bl,aV,oNe_p,w5,Bool.not_true,Bool.false_eq_true,if_false,kJ,bF,q6,q7,v1,v2,kE,dA,v6,kR,v3,ld,if_true,v4,ne_rows]
 rw[kO (s1:=s7) (as:=[]) (ds:=rws.map rowD) (ds':=[]) (r:=.non) rfl rfl (v8 _)]
 simp only[PU.aK,xIf_p,xOr_p,xB_p,aV,kR,bh,aA,aY,aJ,aF,PR.bind_ok,List.set_cons_succ,List.set_cons_zero,w0,ld,if_true,xC_p,cP,oNe_p,v7,PR.of_some,PR.bl,Bool.false_eq_true,if_false,v3,v5,PR.go_ok,kJ]
theorem kU {ns:List Int} {k:Nat} (hk:k<ns.length):atI (ns.map PV.int) (k:Int)=some (.int ns[k]):=L2.dL (by simp[hk])
theorem j4 {h:MH}:opPow (.int 10) (.int 18) h=.ok (.int (10 ^ 18)) h:=jZ (by decide)
theorem nj {h:MH}:opPow (.int 10) (.int 15) h=.ok (.int (10 ^ 15)) h:=jZ (by decide)
theorem nO {h:MH} {ns:List Int} {k:Nat} (hk:k<64):∃m c:Int,cv [.frl (ns.map .int),.int k] h=.ok (.loc h.length) (h++[.lst [.int m,.int c,.int 0]]):=by
 unfold cv
 have k1:∀{i:Int} {h:MH},opMul (.int 7919) (.int i) h=.ok (.int (7919 * i)) h:=dM (by decide)
 have k2:∀{i:Int} {h:MH},opMul (.int 48271) (.int i) h=.ok (.int (48271 * i)) h:=dM (by decide)
 have k3:∀{i:Int} {h:MH},opMul (.int 40009) (.int i) h=.ok (.int (40009 * i)) h:=dM (by decide)
 have n3:∀{a b c:PV} {h:MH},newL [a,b,c] h=.ok (.loc h.length) (h++[.lst [a,b,c]]):=lK (by simp)
 have fin:∀cell:Int,∃m c:Int,(mSeq (mIf (mB (mBin opGe (mCB fAbs (ac (mVar 2) mNil)) (mBin opPow (mC (.int 10)) (mC (.int 18))))) (mRet (mLst (ac (mC (.int 1)) (ac (mCB fAbs (ac (mVar 2) mNil)) (ac (mC (.int 0)) mNil))))) mSkip)
   (mRet (mLst (ac (mC (.int 0)) (ac (mBin opAdd (mBin opMod (mVar 2) (mC (.int 2147483587))) (mBin opMul (mC (.int 40009)) (mVar 1))) (ac (mC (.int 0)) mNil)))))) [some (.frl (ns.map .int)),some (.int k),some (.int cell)] h=.rt (.loc h.length) (h++[.lst [.int m,.int c,.int 0]]):=fun cell=>by
  by_cases z:(10:Int) ^ 18≤(if cell<0 then -cell else cell)
  ·exact ⟨1,(if cell<0 then -cell else cell),by simp[j4,n3,z,-Int.reducePow]⟩
  ·exact ⟨0,cell.fmod 2147483587+40009 * k,by simp[j4,n3,z,k3,db,-Int.reducePow]⟩
 have fin':∀cell:Int,∃m c:Int,((mSeq (mIf (mB (mBin opGe (mCB fAbs (ac (mVar 2) mNil)) (mBin opPow (mC (.int 10)) (mC (.int 18))))) (mRet (mLst (ac (mC (.int 1)) (ac (mCB fAbs (ac (mVar 2) mNil)) (ac (mC (.int 0)) mNil))))) mSkip)
   (mRet (mLst (ac (mC (.int 0)) (ac (mBin opAdd (mBin opMod (mVar 2) (mC (.int 2147483587))) (mBin opMul (mC (.int 40009)) (mVar 1))) (ac (mC (.int 0)) mNil)))))) [some (.frl (ns.map .int)),some (.int k),some (.int cell)] h).fin=.ok (.loc h.length) (h++[.lst [.int m,.int c,.int 0]]):=fun cell=>by
  obtain ⟨m,c,q⟩:=fin cell
  exact ⟨m,c,by rw[q];rfl⟩
 have lift:∀cell:Int,(mSeq (mSet 2 (mBin opAdd (mBin opMul (mC (.int 7919)) (mVar 1)) (mC (.int 11))))
 (mIf (mB (mBin opLt (mVar 1) (mCB fMin (ac (mCB fLen (ac (mVar 0) mNil)) (ac (mC (.int 63)) mNil))))) (mSet 2 (mBin opIx (mVar 0) (mVar 1))) (mIf (mB (mBin opGt (mCB fLen (ac (mVar 0) mNil)) (mC (.int 0)))) (mSet 2 (mBin opAdd (mBin opMod (mBin opIx (mVar 0) (mBin opMod (mVar 1) (mCB fMin (ac (mCB fLen (ac (mVar 0) mNil)) (ac (mC (.int 63)) mNil))))) (mBin opPow (mC (.int 10)) (mC (.int 15)))) (mBin opMul (mC (.int 48271)) (mVar 1)))) mSkip))) [some (.frl (ns.map .int)),some (.int k),none] h=.nx [some (.frl (ns.map .int)),some (.int k),some (.int cell)] h →
   ∃m c:Int,mDef 3 2 m_l_pen [.frl (ns.map .int),.int k] h=.ok (.loc h.length) (h++[.lst [.int m,.int c,.int 0]]):=fun cell q=>by
  obtain ⟨m,c,q2⟩:=fin' cell
  refine ⟨m,c,(fX (by rfl)).trans ?_⟩
  rw[←q2]
  unfold m_l_pen
  simp only[f8] at q ⊢
  have e0:be 3 [PV.frl (ns.map .int),PV.int k]=[some (.frl (ns.map .int)),some (.int k),none]:=rfl
  rw[e0]
  generalize (mSet 2 (mBin opAdd (mBin opMul (mC (.int 7919)) (mVar 1)) (mC (.int 11)))) [some (.frl (ns.map .int)),some (.int k),none] h=o1 at q ⊢
  cases o1 with
  | nx σ1 h1 =>
   simp only[MM.aK,f8] at q ⊢
   rw[q]
   rfl
  | _=>cases q
 have hlim:∃lim:Nat,(if (63:Int)<(ns.length:Int) then (63:Int) else (ns.length:Int))=(lim:Int)∧lim≤ns.length∧(0<ns.length→0<lim):=by
  by_cases z:(63:Int)<(ns.length:Int)
  ·exact ⟨63,by rw[if_pos z];rfl,by omega,by omega⟩
  ·exact ⟨ns.length,by rw[if_neg z],by omega,by omega⟩
 obtain ⟨lim,el,hl1,hl2⟩:=hlim
 by_cases h1:k<lim
 ·refine lift (ns[k]'(by omega)) ?_
  simp[k1,el,h1,kU (show k<ns.length by omega)]
 ·by_cases h0:0<ns.length
  ·have hm0:(lim:Int)≠0:=by have:=hl2 h0;omega
   have hj:k % lim<ns.length:=Nat.lt_of_lt_of_le (Nat.mod_lt _ (hl2 h0)) hl1
   have ej:(k:Int).fmod (lim:Int)=((k % lim:Nat):Int):=by rw[Int.fmod_eq_emod_of_nonneg _ (by omega)];rfl
   refine lift ((ns[k % lim]'hj).fmod (10 ^ 15)+48271 * k) ?_
   have p0:((10:Int) ^ 15)≠0:=by decide
   have a1:=kU hj
   rw[Int.natCast_emod] at a1
   simp[k1,el,h1,h0,db hm0,ej,a1,nj,db p0,k2,-Int.reducePow]
  ·have h0':ns=[]:=List.length_eq_zero_iff.mp (by omega)
   refine lift (7919 * k+11) ?_
   have z:¬((k:Int)<(lim:Int)):=by omega
   simp[k1,el,z,h0]
theorem li {lo:Int} {c i:Nat} {x:PV} (h:(aW lo c)[i]?=some x):x=.int (lo+i)∧i<c:=by
 unfold aW at h
 rw[List.getElem?_map,Option.map_eq_some_iff] at h
 obtain ⟨k,hk,rfl⟩:=h
 have:=List.getElem?_eq_some_iff.mp hk
 obtain ⟨a,b⟩:=this
 simp at a b
 subst b
 exact ⟨rfl,a⟩
theorem lG {c i:Nat} {x:PV} (h:(aW 0 c)[i]?=some x):x=.int (i:Int)∧i<c:=by
 have:=li h;simpa using this
def KS (σ:PSt) (o:SOut):Prop:=match o with
 | .nx σ' _=>σ'.length=σ.length∧σ'[0]?=σ[0]?
 | .bk σ' _=>σ'.length=σ.length∧σ'[0]?=σ[0]?
 | .ct σ' _=>σ'.length=σ.length∧σ'[0]?=σ[0]?
 | _=>True
theorem KS.of {σ σ1:PSt} {o:SOut} (h:σ1.length=σ.length∧σ1[0]?=σ[0]?) (k:KS σ1 o):KS σ o:=by
 cases o with
 | nx a b=>exact ⟨k.1.trans h.1,k.2.trans h.2⟩
 | bk a b=>exact ⟨k.1.trans h.1,k.2.trans h.2⟩
 | ct a b=>exact ⟨k.1.trans h.1,k.2.trans h.2⟩
 | _=>trivial
def K0 (m:Mst):Prop:=∀σ h,KS σ (m σ h)
theorem mf:K0 mSkip:=fun σ h=>⟨rfl,rfl⟩
theorem k_ex {α:Type} {m:Mx α} {k:α→Mst} (hk:∀v,K0 (k v)):K0 (mEx m k):=fun σ h=>by
 unfold mEx
 cases m σ h with
 | ok v h1=>exact hk v σ h1
 | _=>trivial
theorem k_ret {m:Mx PV}:K0 (mRet m):=fun σ h=>by
 unfold mRet
 cases m σ h with
 | ok v h1=>trivial
 | _=>trivial
theorem jg {i:Nat} {v:PV} {σ:PSt} (h:i≠0):(σ.set i (some v)).length=σ.length∧(σ.set i (some v))[0]?=σ[0]?:=⟨by simp,List.getElem?_set_ne h⟩
theorem k_set {i:Nat} {m:Mx PV} (h:i≠0):K0 (mSet i m):=k_ex fun v σ h1=>jg h
theorem k_seq {a b:Mst} (ha:K0 a) (hb:K0 b):K0 (mSeq a b):=fun σ h=>by
 have:=ha σ h
 unfold mSeq
 cases e:a σ h with
 | nx σ1 h1=>rw[e] at this;exact KS.of this (hb σ1 h1)
 | bk σ1 h1=>rw[e] at this;exact this
 | ct σ1 h1=>rw[e] at this;exact this
 | _=>trivial
theorem k_if {c:Mx Bool} {a b:Mst} (ha:K0 a) (hb:K0 b):K0 (mIf c a b):=k_ex fun x=>by
 cases x
 ·exact hb
 ·exact ha
theorem k_drop {m:Mx PV}:K0 (fo m):=k_ex fun _=>mf
theorem k_go {it:MIt} {i:Nat} {b:Mst} (hi:i≠0) (hb:K0 b):∀xs:List PV,K0 (mGo it (gNm i) b xs):=by
 intro xs
 induction xs with
 | nil =>
  intro σ h
  unfold mGo
  split
  ·exact ⟨rfl,rfl⟩
  ·trivial
 | cons x r ih =>
  intro σ h
  unfold mGo
  split
  ·show KS σ (match b (σ.set i (some x)) h with
    | .nx σ2 h2=>mGo it (gNm i) b r σ2 h2
    | .ct σ2 h2=>mGo it (gNm i) b r σ2 h2
    | .bk σ2 h2=>.nx σ2 h2
    | .rt v h2=>.rt v h2
    | .exc e σ2 h2=>.exc e σ2 h2
    | .rse e σ2 h2=>.rse e σ2 h2
    | .bad=>.bad)
   have k:=(hb (σ.set i (some x)) h)
   cases e:b (σ.set i (some x)) h with
   | nx σ2 h2=>rw[e] at k;exact KS.of (jg hi) (KS.of k (ih σ2 h2))
   | ct σ2 h2=>rw[e] at k;exact KS.of (jg hi) (KS.of k (ih σ2 h2))
   | bk σ2 h2=>rw[e] at k;exact KS.of (jg hi) k
   | _=>trivial
  ·trivial
theorem k_for {mi:Mx MIt} {i:Nat} {b:Mst} (hi:i≠0) (hb:K0 b):K0 (mFor mi (gNm i) b):=k_ex fun it=>k_go hi hb it.xs
section
variable {ws:List Nat}
theorem bU {a b:Xd ws} (ha:K0 a.m) (hb:K0 b.m):K0 (xSeq a b).m:=k_seq ha hb
theorem eJ {i:Nat} {e:Xe ws} {hi:ws.contains i=false} {hz:e.fz=true} (h:i≠0):K0 (xSet i e hi hz).m:=k_set h
theorem kx_setO {i:Nat} {e:Xe ws} {hi:ws.contains i=true} {hz:e.fr=true} (h:i≠0):K0 (jk i e hi hz).m:=k_set h
theorem jf {t:Xt ws} {e:Xe ws}:K0 (xIf t (xRet e) xSkip).m:=k_if k_ret mf
theorem lS {it:Xi ws} {i:Nat} {hi:ws.contains i=false} {b:Xd ws} {hz:it.fz=true} (h:i≠0) (hb:K0 b.m):K0 (xFor it (xNm i hi) b hz).m:=k_for h hb
theorem kx_mt {o:OpM} {i:Nat} {a:Xs ws} {hi:ws.contains i=true} {hz:a.fz=true}:K0 (xMt o i a hi hz).m:=k_drop
end
theorem k_body:K0 dl.m:=by
 unfold dl
 exact bU (eJ (by decide)) (bU (lS (by decide) (eJ (by decide))) (bU (lS (by decide) jf) (bU (eJ (by decide)) (bU (eJ (by decide)) (bU jf
  (bU (eJ (by decide)) (bU (eJ (by decide)) (bU (kx_setO (by decide)) (bU jf (bU kx_mt jf))))))))))
theorem ten {σ:PSt} {x:Option PV} (h:σ.length=10) (h0:σ[0]?=some x):∃a1 a2 a3 a4 a5 a6 a7 a8 a9,σ=[x,a1,a2,a3,a4,a5,a6,a7,a8,a9]:=by
 match σ,h with
 | [b0,b1,b2,b3,b4,b5,b6,b7,b8,b9],_ =>
  cases h0
  exact ⟨b1,b2,b3,b4,b5,b6,b7,b8,b9,rfl⟩
theorem og:m_law=mSeq (mFor (ca (ac (mC (.int 2)) mNil)) (gNm 1) (mSeq (mSet 2 (aq cv (ac (mVar 0) (ac (mVar 1) mNil)))) dl.m)) (mRet (mC (.bl true))):=rfl
theorem turn_m {h:MH} {a b:Int} {z0 z1 a3 a4 a5 a6 a7 a8 a9:Option PV}:∃σ' h',dl.m [z0,z1,some (.loc h.length),a3,a4,a5,a6,a7,a8,a9] (h++[.lst [.int a,.int b,.int 0]])=.nx σ' h'∧σ'.length=10∧σ'[0]?=some z0:=by
 have pn:bn (h++[.lst [.int a,.int b,.int 0]]) h.length (a,b,0):=app_0
 obtain ⟨env',s',q⟩:=body_p (s:=(a,b,0))
 have c:PU.Cx h.length (h++[.lst [.int a,.int b,.int 0]]) (h++[MO.lst [.int a,.int b,.int 0]]).length [h.length] [h.length] [9] [z0,z1,some (.loc h.length),a3,a4,a5,a6,a7,a8,a9] [none,none,some .pen,none,none,none,none,none,none,none] (a,b,0):=by
  refine ⟨fun o ho=>?_,fun _ h=>h,fun o ho=>?_,by simp,Nat.le_refl _,pn,⟨rfl,fun i d e _=>?_,fun i d e hi=>?_⟩⟩
  ·have:o=h.length:=by simpa using ho
   subst this;simp
  ·have:o=h.length:=by simpa using ho
   subst this;simp
  ·match i,e with
   | 0,e=>cases e
   | 1,e=>cases e
   | 2,e=>cases e;exact ⟨_,rfl,rfl⟩
   | 3,e=>cases e
   | 4,e=>cases e
   | 5,e=>cases e
   | 6,e=>cases e
   | 7,e=>cases e
   | 8,e=>cases e
   | 9,e=>cases e
   | n+10,e=>simp at e
  ·have:i=9:=by simpa using hi
   subst this
   cases e
 have k:=dl.ok c fun i j hi _ _ d _ _ e=>by
  have:i=9:=by simpa using hi
  subst this
  cases e
 rw[q] at k
 obtain ⟨σ',h',e,_⟩:=k
 have kk:=k_body [z0,z1,some (.loc h.length),a3,a4,a5,a6,a7,a8,a9] (h++[.lst [.int a,.int b,.int 0]])
 rw[e] at kk
 exact ⟨σ',h',e,kk.1,kk.2⟩
theorem law_true (ns:List Int) (hn:ns.length≤63):∃h',f_law [.frl (ns.map .int)] []=.ok (.bl true) h':=by
 unfold f_law
 rw[fX (by rfl),og]
 have er:ca (ac (mC (.int 2)) mNil) [some (.frl (ns.map .int)),none,none,none,none,none,none,none,none,none] []=.ok ⟨aW 0 2,[]⟩ []:=itR1 (n:=2) rfl (by omega)
 obtain ⟨σ',h',e,hσ⟩:=la (it:=⟨aW 0 2,[]⟩) (g:=gNm 1) (b:=mSeq (mSet 2 (aq cv (ac (mVar 0) (ac (mVar 1) mNil)))) dl.m)
  (fun _ σ _=>σ.length=10∧σ[0]?=some (some (.frl (ns.map .int)))) (aW 0 2) 0 [some (.frl (ns.map .int)),none,none,none,none,none,none,none,none,none] [] ⟨rfl,rfl⟩ (fun _ _ _ _=>ok_none.mpr trivial) (fun m σ h x ⟨hl,h0⟩ hx=>by
   obtain ⟨a1,a2,a3,a4,a5,a6,a7,a8,a9,rfl⟩:=ten hl h0
   obtain ⟨rfl,hm⟩:=lG hx
   obtain ⟨a,b,qp⟩:=nO (h:=h) (ns:=ns) (k:=m) (by omega)
   obtain ⟨σ2,h2,e2,k1,k2⟩:=turn_m (h:=h) (a:=a) (b:=b) (z0:=some (.frl (ns.map .int))) (z1:=some (.int (m:Int))) (a3:=a3) (a4:=a4) (a5:=a5) (a6:=a6) (a7:=a7) (a8:=a8) (a9:=a9)
   refine ⟨_,_,σ2,h2,rfl,?_,k1,k2⟩
   rw[f8]
   have e1:mSet 2 (aq cv (ac (mVar 0) (ac (mVar 1) mNil))) [some (.frl (ns.map .int)),some (.int (m:Int)),a2,a3,a4,a5,a6,a7,a8,a9] h=.nx [some (.frl (ns.map .int)),some (.int (m:Int)),some (.loc h.length),a3,a4,a5,a6,a7,a8,a9] (h++[.lst [.int a,.int b,.int 0]]):=by
    simp -implicitDefEqProofs [qp]
   refine (congrArg (fun z:SOut=>z.then _) e1).trans ?_
   rw[MM.aK]
   exact e2)
 refine ⟨h',?_⟩
 have e0:be 10 [PV.frl (ns.map .int)]=[some (.frl (ns.map .int)),none,none,none,none,none,none,none,none,none]:=rfl
 rw[e0,f8,mFor_ap,er,aU,e,MM.aK]
 simp
end Law
namespace Law
open PySem PySem.Spec PyProof.Rows L2 MM
set_option maxHeartbeats 4000000
theorem ce {X:Cx} {N:List Str} {scope sc:Scope} {vars frees:List Str} {fm:List Nat} (hsc:X.env.scope=sc) (h1:scope.kind=.function) (h7:fm.map (fun i=>N[i]?)=frees.map some) (h:(∀y∈scope.names,y.2≠.cell)∧(∀y∈scope.names,y.2=.local→scope.names.lookup y.1=some .local)∧(∀x∈vars,scope.names.lookup x=some .local)∧(∀x∈frees,scope.names.lookup x=some .free)∧(∀y∈scope.names,y.2=.free→y.1∈frees)∧(∀x∈frees,sc.names.lookup x=some .cell)):CompOk X N scope vars frees fm :=
 compOk hsc h1 h.1 h.2.1 h.2.2.1 h.2.2.2.1 h.2.2.2.2.1 h7 h.2.2.2.2.2
def top (i:Nat):Stmt:=PySem.Challenge.pw_fewfills_k45_numbers_sheets_rows_shown.main.body.getD i (.Pass ⟨0,0,0,0⟩)
structure Cl (K:PySem.W.Frag) (mg:MGl):Prop where
 r_NoNumber:∃C,ExcK K mg "NoNumber" C
theorem cl_of {K:PySem.W.Frag} {mg:MGl} {base:Heap} (kin:K.In base) (ns:base.Ns mainGlobals mg) {C_NoNumber:Addr}
  (a_NoNumber:PySem.W.nsIn K mainGlobals "NoNumber"=some (some (.ref C_NoNumber)))
  (e_NoNumber:PySem.W.excIn K C_NoNumber bmVE "ValueError.__new__"=true)
  (ga_NoNumber:PySem.W.findIn K (.ref C_NoNumber) "__getattribute__"=some (some (.builtin "BaseException.__getattribute__")))
  (cl_NoNumber:PySem.W.findIn K (.ref C_NoNumber) "__class__"=some (some (.builtin "object.__class__")))
  (gt_NoNumber:PySem.W.findIn K (.ref C_NoNumber) "__getattr__"=some none)
  (mo_NoNumber:PySem.W.mroIn K C_NoNumber (.type "object")=some true)
  (mb_NoNumber:PySem.W.mroIn K C_NoNumber (.type "BaseException")=some true)
   :Cl K mg:=by
 have g_NoNumber:=PySem.W.mg_of kin ns a_NoNumber
 exact ⟨⟨_,g_NoNumber,e_NoNumber⟩⟩
structure ClK (K:PySem.W.Frag):Prop where
 ex:∃C_NoNumber:Addr,PySem.W.nsIn K mainGlobals "NoNumber"=some (some (.ref C_NoNumber))∧PySem.W.excIn K C_NoNumber bmVE "ValueError.__new__"=true∧PySem.W.findIn K (.ref C_NoNumber) "__getattribute__"=some (some (.builtin "BaseException.__getattribute__"))∧PySem.W.findIn K (.ref C_NoNumber) "__class__"=some (some (.builtin "object.__class__"))∧PySem.W.findIn K (.ref C_NoNumber) "__getattr__"=some none∧PySem.W.mroIn K C_NoNumber (.type "object")=some true∧PySem.W.mroIn K C_NoNumber (.type "BaseException")=some true
theorem clK_mk {K:PySem.W.Frag} {C_NoNumber:Addr} (a_NoNumber:PySem.W.nsIn K mainGlobals "NoNumber"=some (some (.ref C_NoNumber))) (e_NoNumber:PySem.W.excIn K C_NoNumber bmVE "ValueError.__new__"=true) (ga_NoNumber:PySem.W.findIn K (.ref C_NoNumber) "__getattribute__"=some (some (.builtin "BaseException.__getattribute__"))) (cl_NoNumber:PySem.W.findIn K (.ref C_NoNumber) "__class__"=some (some (.builtin "object.__class__"))) (gt_NoNumber:PySem.W.findIn K (.ref C_NoNumber) "__getattr__"=some none) (mo_NoNumber:PySem.W.mroIn K C_NoNumber (.type "object")=some true) (mb_NoNumber:PySem.W.mroIn K C_NoNumber (.type "BaseException")=some true):ClK K:=⟨C_NoNumber,a_NoNumber,e_NoNumber,ga_NoNumber,cl_NoNumber,gt_NoNumber,mo_NoNumber,mb_NoNumber⟩
theorem ClK.cl {K:PySem.W.Frag} {mg:MGl} {base:Heap} (z:ClK K) (kin:K.In base) (ns:base.Ns mainGlobals mg):Cl K mg:=by
 obtain ⟨_,a_NoNumber,e_NoNumber,ga_NoNumber,cl_NoNumber,gt_NoNumber,mo_NoNumber,mb_NoNumber⟩:=z.ex
 exact cl_of kin ns a_NoNumber e_NoNumber ga_NoNumber cl_NoNumber gt_NoNumber mo_NoNumber mb_NoNumber
abbrev bX:Stmt:=top 4
abbrev dC:List Str:=["thing"]
abbrev hG:List Str:=["isinstance","int","bool"]
abbrev P_is_whole:List Str:=["thing"]
theorem lu {X:Cx} {k:Nat} (hsc:X.env.scope=ai bX) (g:Good X dC dC hG k) (dc:DefCx X) (n4:X.mg "isinstance"=none) (n1:X.mg "bool"=none) (n3:X.mg "int"=none):MSs X (au bX) m_is_whole :=
 (ao (ax (md (kg g (i:=0) (j:=1) rfl n4 rfl n3 PyProof.Rows.Boot.«int» okT_int (af g 0 rfl)) (mZ (me_not (kg g (i:=0) (j:=2) rfl n4 rfl n1 PyProof.Rows.Boot.«bool» nG (af g 0 rfl)))))))
theorem kr:FnScope dC P_is_whole (ai bX):=⟨rfl,rfl,rfl,by decide +kernel,rfl,by decide +kernel,by decide +kernel⟩
theorem kz:az "is_whole" bX P_is_whole:=fun _ _ _ _ _ _ us hl=>match us,hl with | [_],_=>rfl
abbrev aR:Stmt:=top 5
abbrev bw:List Str:=["a","b","rest"]
abbrev dv:List Str:=[]
abbrev P_greatest_shared:List Str:=["a","b"]
theorem gm {X:Cx} {k:Nat} (hsc:X.env.scope=ai aR) (g:Good X bw bw dv k) (dc:DefCx X):MSs X (au aR) m_greatest_shared :=
 (aj (gC g (aN (gb g.room) (af g 1 rfl) ah (nomark _)) (aj (ar g 2 rfl rfl (ak bA (af g 0 rfl) (af g 1 rfl)))
 (aj (ar g 0 rfl rfl (af g 1 rfl))
 (ao (ar g 1 rfl rfl (af g 2 rfl))))))
 (ao (ax (af g 0 rfl))))
theorem fA:FnScope bw P_greatest_shared (ai aR):=⟨rfl,rfl,rfl,by decide +kernel,rfl,by decide +kernel,by decide +kernel⟩
theorem fP:az "greatest_shared" aR P_greatest_shared:=fun _ _ _ _ _ _ us hl=>match us,hl with | [_,_],_=>rfl
abbrev bL:Stmt:=top 6
abbrev di:List Str:=["top","bottom","shared"]
abbrev gq:List Str:=["is_whole","NoNumber","greatest_shared","abs"]
abbrev P_number_of:List Str:=["top","bottom"]
theorem kC {X:Cx} {k:Nat} (hsc:X.env.scope=ai bL) (g:Good X di di gq k) (dc:DefCx X) (c1:Cal X "greatest_shared" P_greatest_shared ci k) (c0:Cal X "is_whole" P_is_whole dE k) (n0:X.mg "abs"=none) (cl:Cl X.K X.mg):MSs X (au bL) m_number_of :=
 (aj (br (MW.mt (je (fE (fC (al g (j:=0) rfl c0 (aa (af g 0 rfl) ag)))) (gW (fE (fC (al g (j:=0) rfl c0 (aa (af g 1 rfl) ag))))))) (ao (iD g (j:=1) rfl cl.r_NoNumber (aa aO ag))) aS)
 (aj (br (aN (fc g.room) (af g 1 rfl) ah (nomark _)) (ao (iD g (j:=1) rfl cl.r_NoNumber (aa aO ag))) aS)
 (aj (ar g 2 rfl rfl (al g (j:=2) rfl c1 (aa (ba g 3 rfl dY n0 PyProof.Rows.Boot.«abs» (aa (af g 0 rfl) ag)) (aa (ba g 3 rfl dY n0 PyProof.Rows.Boot.«abs» (aa (af g 1 rfl) ag)) ag))))
 (aj (br (aN jj (af g 1 rfl) ah (nomark _)) (ao (ar g 2 rfl rfl (lF jA (af g 2 rfl)))) aS)
 (ao (ax (cm (aa (ak fb (af g 0 rfl) (af g 2 rfl)) (aa (ak fb (af g 1 rfl) (af g 2 rfl)) ag)))))))))
theorem j5:FnScope di P_number_of (ai bL):=⟨rfl,rfl,rfl,by decide +kernel,rfl,by decide +kernel,by decide +kernel⟩
theorem jB:az "number_of" bL P_number_of:=fun _ _ _ _ _ _ us hl=>match us,hl with | [_,_],_=>rfl
abbrev dH:Stmt:=top 7
abbrev f6:List Str:=["a","b"]
abbrev kT:List Str:=["number_of"]
abbrev P_times:List Str:=["a","b"]
theorem b_times {X:Cx} {k:Nat} (hsc:X.env.scope=ai dH) (g:Good X f6 f6 kT k) (dc:DefCx X) (c2:Cal X "number_of" P_number_of eB k):MSs X (au dH) m_times :=
 (ao (ax (al g (j:=0) rfl c2 (aa (ak cE (aE (af g 0 rfl) ah (fun _ _=>rfl)) (aE (af g 1 rfl) ah (fun _ _=>rfl))) (aa (ak cE (aE (af g 0 rfl) ah (fun _ _=>rfl)) (aE (af g 1 rfl) ah (fun _ _=>rfl))) ag)))))
theorem ot:FnScope f6 P_times (ai dH):=⟨rfl,rfl,rfl,by decide +kernel,rfl,by decide +kernel,by decide +kernel⟩
theorem nS:az "times" dH P_times:=fun _ _ _ _ _ _ us hl=>match us,hl with | [_,_],_=>rfl
abbrev bz:Stmt:=top 9
abbrev cT:List Str:=["whole","text"]
abbrev fO:List Str:=["str"]
abbrev P_show_whole:List Str:=["whole"]
theorem jo {X:Cx} {k:Nat} (hsc:X.env.scope=ai bz) (g:Good X cT cT fO k) (dc:DefCx X) (n9:X.mg "str"=none):MSs X (au bz) m_show_whole :=
 (aj (ar g 1 rfl rfl aO)
 (aj (gC g (aN oj_ge (af g 0 rfl) (ak fG ah ah) (nomark _)) (aj (ar g 1 rfl rfl (ak ay (dG PySem.F.slot_str_zfill PySem.F.type_str_zfill nu (aX g 0 rfl dq n9 PyProof.Rows.Boot.«str» (aa (ak bA (af g 0 rfl) (ak fG ah ah)) ag)) (aa ah ag)) (af g 1 rfl)))
 (ao (ar g 0 rfl rfl (ak fb (af g 0 rfl) (ak fG ah ah))))))
 (ao (ax (ak ay (aX g 0 rfl dq n9 PyProof.Rows.Boot.«str» (aa (af g 0 rfl) ag)) (af g 1 rfl))))))
theorem jb:FnScope cT P_show_whole (ai bz):=⟨rfl,rfl,rfl,by decide +kernel,rfl,by decide +kernel,by decide +kernel⟩
theorem iY:az "show_whole" bz P_show_whole:=fun _ _ _ _ _ _ us hl=>match us,hl with | [_],_=>rfl
abbrev bo:Stmt:=top 10
abbrev cp:List Str:=["number","text"]
abbrev ft:List Str:=["show_whole","abs"]
abbrev P_show_number:List Str:=["number"]
theorem i6 {X:Cx} {k:Nat} (hsc:X.env.scope=ai bo) (g:Good X cp cp ft k) (dc:DefCx X) (c4:Cal X "show_whole" P_show_whole cQ k) (n0:X.mg "abs"=none):MSs X (au bo) m_show_number :=
 (aj (ar g 1 rfl rfl (al g (j:=0) rfl c4 (aa (ba g 1 rfl dY n0 PyProof.Rows.Boot.«abs» (aa (aE (af g 0 rfl) ah (fun _ _=>rfl)) ag)) ag)))
 (aj (br (aN jj (aE (af g 0 rfl) ah (fun _ _=>rfl)) ah (nomark _)) (ao (ar g 1 rfl rfl (ak ay aO (af g 1 rfl)))) aS)
 (aj (br (aN (gb g.room) (aE (af g 0 rfl) ah (fun _ _=>rfl)) ah (nomark _)) (ao (ar g 1 rfl rfl (ak ay (ak ay (af g 1 rfl) aO) (al g (j:=0) rfl c4 (aa (aE (af g 0 rfl) ah (fun _ _=>rfl)) ag))))) aS)
 (ao (ax (af g 1 rfl))))))
theorem io:FnScope cp P_show_number (ai bo):=⟨rfl,rfl,rfl,by decide +kernel,rfl,by decide +kernel,by decide +kernel⟩
theorem iq:az "show_number" bo P_show_number:=fun _ _ _ _ _ _ us hl=>match us,hl with | [_],_=>rfl
abbrev bB:Stmt:=top 11
abbrev cI:List Str:=["parts"]
abbrev fT:List Str:=[]
abbrev P_show_parts:List Str:=["parts"]
theorem jl {X:Cx} {k:Nat} (hsc:X.env.scope=ai bB) (g:Good X cI cI fT k) (dc:DefCx X) (c5:Cal X "show_number" P_show_number bc k) (n9:X.mg "str"=none):MSs X (au bB) m_show_parts :=
 (ao (ax (bY g (vars:=["j","number"]) (frees:=[]) (G':=["str","show_number"]) (fm:=[]) (ce (hsc:=hsc) rfl rfl (by decide +kernel)) (by decide +kernel) (by decide +kernel) (by decide +kernel) (fV (af g 0 rfl)) (fun Y y1 y2 y3 y4 y5 y6 g=>have n9:Y.mg "str"=none:=y4.symm▸n9;have c5:=c5.at y1 y2 y3 y4 y5;⟨(fD g (bu (aL g 0 rfl rfl) (bu (aL g 1 rfl rfl) eS))),cz,(ak ay (ak ay (aX g 0 rfl dq n9 PyProof.Rows.Boot.«str» (aa (af g 0 rfl) ag)) aO) (al g (j:=1) rfl c5 (aa (af g 1 rfl) ag)))⟩))))
theorem i5:FnScope cI P_show_parts (ai bB):=⟨rfl,rfl,rfl,by decide +kernel,rfl,by decide +kernel,by decide +kernel⟩
theorem i7:az "show_parts" bB P_show_parts:=fun _ _ _ _ _ _ us hl=>match us,hl with | [_],_=>rfl
abbrev bC:Stmt:=top 12
abbrev cN:List Str:=["sheet"]
abbrev fJ:List Str:=["enumerate"]
abbrev P_show_sheet:List Str:=["sheet"]
theorem jt {X:Cx} {k:Nat} (hsc:X.env.scope=ai bC) (g:Good X cN cN fJ k) (dc:DefCx X) (c6:Cal X "show_parts" P_show_parts bQ k) (n2:X.mg "enumerate"=none):MSs X (au bC) m_show_sheet :=
 (ao (ax (dG PySem.F.slot_str_join PySem.F.type_str_join cy aO (aa (bY g (vars:=["i","row"]) (frees:=[]) (G':=["show_parts"]) (fm:=[]) (ce (hsc:=hsc) rfl rfl (by decide +kernel)) (by decide +kernel) (by decide +kernel) (by decide +kernel) (mi_enum g (j:=0) rfl n2 (aa (aE (af g 0 rfl) ah (fun _ _=>rfl)) ag)) (fun Y y1 y2 y3 y4 y5 y6 g=>have c6:=c6.at y1 y2 y3 y4 y5;⟨(fD g (bu (aL g 0 rfl rfl) (bu (aL g 1 rfl rfl) eS))),cz,(dG PySem.F.slot_str_join PySem.F.type_str_join cy aO (aa (ak ay (bG (aa (me_fs (af g 0 rfl)) ag)) (al g (j:=0) rfl c6 (aa (af g 1 rfl) ag))) ag))⟩)) ag))))
theorem i8:FnScope cN P_show_sheet (ai bC):=⟨rfl,rfl,rfl,by decide +kernel,rfl,by decide +kernel,by decide +kernel⟩
theorem i9:az "show_sheet" bC P_show_sheet:=fun _ _ _ _ _ _ us hl=>match us,hl with | [_],_=>rfl
abbrev bK:Stmt:=top 13
abbrev dj:List Str:=["rows"]
abbrev gs:List Str:=[]
abbrev P_show_rows:List Str:=["rows"]
theorem kn {X:Cx} {k:Nat} (hsc:X.env.scope=ai bK) (g:Good X dj dj gs k) (dc:DefCx X) (c6:Cal X "show_parts" P_show_parts bQ k) (c5:Cal X "show_number" P_show_number bc k):MSs X (au bK) m_show_rows :=
 (ao (ax (dG PySem.F.slot_str_join PySem.F.type_str_join cy aO (aa (bY g (vars:=["parts","right"]) (frees:=[]) (G':=["show_parts","show_number"]) (fm:=[]) (ce (hsc:=hsc) rfl rfl (by decide +kernel)) (by decide +kernel) (by decide +kernel) (by decide +kernel) (fV (af g 0 rfl)) (fun Y y1 y2 y3 y4 y5 y6 g=>have c6:=c6.at y1 y2 y3 y4 y5;have c5:=c5.at y1 y2 y3 y4 y5;⟨(fD g (bu (aL g 0 rfl rfl) (bu (aL g 1 rfl rfl) eS))),cz,(dG PySem.F.slot_str_join PySem.F.type_str_join cy aO (aa (ak ay (al g (j:=0) rfl c6 (aa (af g 0 rfl) ag)) (bG (aa aO (aa (al g (j:=1) rfl c5 (aa (af g 1 rfl) ag)) ag)))) ag))⟩)) ag))))
theorem jE:FnScope dj P_show_rows (ai bK):=⟨rfl,rfl,rfl,by decide +kernel,rfl,by decide +kernel,by decide +kernel⟩
theorem jV:az "show_rows" bK P_show_rows:=fun _ _ _ _ _ _ us hl=>match us,hl with | [_],_=>rfl
abbrev dI:Stmt:=top 15
abbrev fW:List Str:=["_law_script","_law_k","_law_cell"]
abbrev k9:List Str:=["min","len","abs"]
abbrev P_l_pen:List Str:=["_law_script","_law_k"]
theorem b_l_pen {X:Cx} {k:Nat} (hsc:X.env.scope=ai dI) (g:Good X fW fW k9 k) (dc:DefCx X) (n0:X.mg "abs"=none) (n5:X.mg "len"=none) (n7:X.mg "min"=none):MSs X (au dI) m_l_pen :=
 (aj (ar g 2 rfl rfl (ak ay (ak cE ah (af g 1 rfl)) ah))
 (aj (br (aN jj (af g 1 rfl) (ba g 0 rfl (mO g) n7 PyProof.Rows.Boot.«min» (aa (ba g 1 rfl kc n5 PyProof.Rows.Boot.«len» (aa (af g 0 rfl) ag)) (aa ah ag))) (nomark _)) (ao (ar g 2 rfl rfl (aE (af g 0 rfl) (af g 1 rfl) (fun _ _=>rfl)))) (ao (br (aN oj_gt (ba g 1 rfl kc n5 PyProof.Rows.Boot.«len» (aa (af g 0 rfl) ag)) ah (nomark _)) (ao (ar g 2 rfl rfl (ak ay (ak bA (aE (af g 0 rfl) (ak bA (af g 1 rfl) (ba g 0 rfl (mO g) n7 PyProof.Rows.Boot.«min» (aa (ba g 1 rfl kc n5 PyProof.Rows.Boot.«len» (aa (af g 0 rfl) ag)) (aa ah ag)))) (fun _ _=>rfl)) (ak fG ah ah)) (ak cE ah (af g 1 rfl))))) aS)))
 (aj (br (aN oj_ge (ba g 2 rfl dY n0 PyProof.Rows.Boot.«abs» (aa (af g 2 rfl) ag)) (ak fG ah ah) (nomark _)) (ao (ax (bG (aa ah (aa (ba g 2 rfl dY n0 PyProof.Rows.Boot.«abs» (aa (af g 2 rfl) ag)) (aa ah ag)))))) aS)
 (ao (ax (bG (aa ah (aa (ak ay (ak bA (af g 2 rfl) ah) (ak cE ah (af g 1 rfl))) (aa ah ag)))))))))
theorem om:FnScope fW P_l_pen (ai dI):=⟨rfl,rfl,rfl,by decide +kernel,rfl,by decide +kernel,by decide +kernel⟩
theorem nk:az "_law_pen" dI P_l_pen:=fun _ _ _ _ _ _ us hl=>match us,hl with | [_,_],_=>rfl
abbrev cU:Stmt:=top 16
abbrev e7:List Str:=["_law_pen_here","_law_size","_law_number_here","_law_drawn"]
abbrev jn:List Str:=[]
abbrev P_l_draw:List Str:=["_law_pen_here","_law_size"]
theorem nz {X:Cx} {k:Nat} (hsc:X.env.scope=ai cU) (g:Good X e7 e7 jn k) (dc:DefCx X):MSs X (au cU) m_l_draw :=
 (aj (mU (ak ay (aE (af g 0 rfl) ah (fun _ _=>rfl)) ah) (l4 (af g 0 rfl) ah))
 (aj (br (aN (fc g.room) (aE (af g 0 rfl) ah (fun _ _=>rfl)) ah (nomark _)) (aj (ar g 3 rfl rfl (ak bA (aE (af g 0 rfl) ah (fun _ _=>rfl)) (af g 1 rfl)))
 (aj (mU (ak fb (aE (af g 0 rfl) ah (fun _ _=>rfl)) (af g 1 rfl)) (l4 (af g 0 rfl) ah))
 (ao (ax (af g 3 rfl))))) aS)
 (aj (ar g 2 rfl rfl (ak bA (ak cE (ak ay (ak ay (aE (af g 0 rfl) ah (fun _ _=>rfl)) (ak cE ah (aE (af g 0 rfl) ah (fun _ _=>rfl)))) ah) ah) ah))
 (aj (ar g 2 rfl rfl (ak bA (ak cE (af g 2 rfl) (ak ay (ak ay (ak bA (af g 2 rfl) ah) (aE (af g 0 rfl) ah (fun _ _=>rfl))) ah)) ah))
 (ao (ax (ak bA (ak fb (ak bA (ak cE (af g 2 rfl) (ak ay (ak bA (af g 2 rfl) ah) ah)) ah) ah) (af g 1 rfl))))))))
theorem mn:FnScope e7 P_l_draw (ai cU):=⟨rfl,rfl,rfl,by decide +kernel,rfl,by decide +kernel,by decide +kernel⟩
theorem lW:az "_law_draw" cU P_l_draw:=fun _ _ _ _ _ _ us hl=>match us,hl with | [_,_],_=>rfl
abbrev cc:Stmt:=top 17
abbrev dz:List Str:=["_law_top","_law_bottom","_law_one","_law_other"]
abbrev g8:List Str:=["abs"]
abbrev P_l_lowest:List Str:=["_law_top","_law_bottom"]
theorem lE {X:Cx} {k:Nat} (hsc:X.env.scope=ai cc) (g:Good X dz dz g8 k) (dc:DefCx X) (n0:X.mg "abs"=none):MSs X (au cc) m_l_lowest :=
 (aj (mY g 2 3 rfl rfl (by decide) (aa (ba g 0 rfl dY n0 PyProof.Rows.Boot.«abs» (aa (af g 0 rfl) ag)) (aa (ba g 0 rfl dY n0 PyProof.Rows.Boot.«abs» (aa (af g 1 rfl) ag)) ag)) (by rw[hsc];rfl) (by rw[hsc];rfl) (by revert hsc;generalize X.env=env;intro h;cases env;cases h;rfl))
 (aj (gC g (aN oj_gt (af g 3 rfl) ah (nomark _)) (ao (mY g 2 3 rfl rfl (by decide) (aa (af g 3 rfl) (aa (ak bA (af g 2 rfl) (af g 3 rfl)) ag)) (by rw[hsc];rfl) (by rw[hsc];rfl) (by revert hsc;generalize X.env=env;intro h;cases env;cases h;rfl))))
 (aj (br (aN jj (af g 1 rfl) ah (nomark _)) (ao (ar g 2 rfl rfl (lF jA (af g 2 rfl)))) aS)
 (ao (ax (cm (aa (ak fb (af g 0 rfl) (af g 2 rfl)) (aa (ak fb (af g 1 rfl) (af g 2 rfl)) ag))))))))
theorem kA:FnScope dz P_l_lowest (ai cc):=⟨rfl,rfl,rfl,by decide +kernel,rfl,by decide +kernel,by decide +kernel⟩
theorem kw:az "_law_lowest" cc P_l_lowest:=fun _ _ _ _ _ _ us hl=>match us,hl with | [_,_],_=>rfl
abbrev cb:Stmt:=top 18
abbrev dw:List Str:=["_law_pen_here","_law_way","_law_top","_law_bottom"]
abbrev gP:List Str:=["_law_draw","_law_lowest"]
abbrev P_l_number:List Str:=["_law_pen_here"]
theorem lr {X:Cx} {k:Nat} (hsc:X.env.scope=ai cb) (g:Good X dw dw gP k) (dc:DefCx X) (c11:Cal X "_law_lowest" P_l_lowest eY k) (c10:Cal X "_law_draw" P_l_draw av k):MSs X (au cb) m_l_number :=
 (aj (ar g 1 rfl rfl (al g (j:=0) rfl c10 (aa (af g 0 rfl) (aa ah ag))))
 (aj (ar g 2 rfl rfl (ak ay ah (al g (j:=0) rfl c10 (aa (af g 0 rfl) (aa (aE (bG (aa ah (aa ah (aa ah (aa ah ag))))) (af g 1 rfl) (fun _ _=>rfl)) ag)))))
 (aj (ar g 3 rfl rfl (ak ay ah (al g (j:=0) rfl c10 (aa (af g 0 rfl) (aa (aE (bG (aa ah (aa ah (aa ah (aa ah ag))))) (af g 1 rfl) (fun _ _=>rfl)) ag)))))
 (aj (br (aN (fc g.room) (al g (j:=0) rfl c10 (aa (af g 0 rfl) (aa ah ag))) ah (nomark _)) (ao (ar g 2 rfl rfl (ak oj_sub ah (af g 2 rfl)))) aS)
 (ao (ax (al g (j:=1) rfl c11 (aa (af g 2 rfl) (aa (af g 3 rfl) ag)))))))))
theorem kB:FnScope dw P_l_number (ai cb):=⟨rfl,rfl,rfl,by decide +kernel,rfl,by decide +kernel,by decide +kernel⟩
theorem kl:az "_law_number" cb P_l_number:=fun _ _ _ _ _ _ us hl=>match us,hl with | [_],_=>rfl
abbrev cA:Stmt:=top 19
abbrev d7:List Str:=["_law_pen_here","_law_n","_law_some"]
abbrev iQ:List Str:=["_law_draw","tuple","range"]
abbrev P_l_parts:List Str:=["_law_pen_here","_law_n"]
theorem lZ {X:Cx} {k:Nat} (hsc:X.env.scope=ai cA) (g:Good X d7 d7 iQ k) (dc:DefCx X) (c10:Cal X "_law_draw" P_l_draw av k) (c12:Cal X "_law_number" P_l_number bq k) (n8:X.mg "range"=none) (n10:X.mg "tuple"=none):MSs X (au cA) m_l_parts :=
 (aj (ar g 2 rfl rfl (ak ay ah (al g (j:=0) rfl c10 (aa (af g 0 rfl) (aa ah ag)))))
 (ao (ax (aX g 1 rfl jM n10 PyProof.Rows.Boot.«tuple» (aa (bY g (vars:=["_law_j"]) (frees:=["_law_pen_here","_law_some"]) (G':=["_law_number","_law_draw"]) (fm:=[0,2]) (ce (hsc:=hsc) rfl rfl (by decide +kernel)) (by decide +kernel) (by decide +kernel) (by decide +kernel) (bP (g.gl _ (aC (i:=2) rfl)) n8 (aa (af g 1 rfl) ag)) (fun Y y1 y2 y3 y4 y5 y6 g=>have c10:=c10.at y1 y2 y3 y4 y5;have c12:=c12.at y1 y2 y3 y4 y5;⟨(aL g 0 rfl rfl),(mts_one (aN (fc g.room) (al g (j:=1) rfl c10 (aa (af g 1 rfl) (aa (af g 2 rfl) ag))) ah (nomark _))),(cm (aa (af g 0 rfl) (aa (al g (j:=0) rfl c12 (aa (af g 1 rfl) ag)) ag)))⟩)) ag)))))
theorem lq:FnScope d7 P_l_parts (ai cA):=⟨rfl,rfl,rfl,by decide +kernel,rfl,by decide +kernel,by decide +kernel⟩
theorem lI:az "_law_parts" cA P_l_parts:=fun _ _ _ _ _ _ us hl=>match us,hl with | [_,_],_=>rfl
abbrev cw:Stmt:=top 20
abbrev d9:List Str:=["_law_pen_here","_law_n"]
abbrev iP:List Str:=["_law_draw","tuple","range"]
abbrev P_l_sheet:List Str:=["_law_pen_here"]
theorem mF {X:Cx} {k:Nat} (hsc:X.env.scope=ai cw) (g:Good X d9 d9 iP k) (dc:DefCx X) (c13:Cal X "_law_parts" P_l_parts dk k) (c10:Cal X "_law_draw" P_l_draw av k) (n8:X.mg "range"=none) (n10:X.mg "tuple"=none):MSs X (au cw) m_l_sheet :=
 (aj (ar g 1 rfl rfl (aE (bG (aa (al g (j:=0) rfl c10 (aa (af g 0 rfl) (aa ah ag))) (aa (al g (j:=0) rfl c10 (aa (af g 0 rfl) (aa ah ag))) ag))) (al g (j:=0) rfl c10 (aa (af g 0 rfl) (aa ah ag))) (fun _ _=>rfl)))
 (ao (ax (cm (aa (af g 1 rfl) (aa (aX g 1 rfl jM n10 PyProof.Rows.Boot.«tuple» (aa (bY g (vars:=["_law_i"]) (frees:=["_law_pen_here","_law_n"]) (G':=["_law_parts"]) (fm:=[0,1]) (ce (hsc:=hsc) rfl rfl (by decide +kernel)) (by decide +kernel) (by decide +kernel) (by decide +kernel) (bP (g.gl _ (aC (i:=2) rfl)) n8 (aa (af g 1 rfl) ag)) (fun Y y1 y2 y3 y4 y5 y6 g=>have c13:=c13.at y1 y2 y3 y4 y5;⟨(aL g 0 rfl rfl),cz,(al g (j:=0) rfl c13 (aa (af g 1 rfl) (aa (af g 2 rfl) ag)))⟩)) ag)) ag))))))
theorem lp:FnScope d9 P_l_sheet (ai cw):=⟨rfl,rfl,rfl,by decide +kernel,rfl,by decide +kernel,by decide +kernel⟩
theorem lv:az "_law_sheet" cw P_l_sheet:=fun _ _ _ _ _ _ us hl=>match us,hl with | [_],_=>rfl
abbrev cX:Stmt:=top 21
abbrev fi:List Str:=["_law_pen_here","_law_n","_law_many","_law_rows_here","_law_k","_law_right"]
abbrev ki:List Str:=["_law_draw","range","_law_number","_law_parts"]
abbrev P_l_rows:List Str:=["_law_pen_here","_law_n"]
theorem nU {X:Cx} {k:Nat} (hsc:X.env.scope=ai cX) (g:Good X fi fi ki k) (dc:DefCx X) (c13:Cal X "_law_parts" P_l_parts dk k) (c10:Cal X "_law_draw" P_l_draw av k) (c12:Cal X "_law_number" P_l_number bq k) (n8:X.mg "range"=none):MSs X (au cX) m_l_rows :=
 (aj (ar g 2 rfl rfl (aE (bG (aa (al g (j:=0) rfl c10 (aa (af g 0 rfl) (aa ah ag))) (aa ah (aa (al g (j:=0) rfl c10 (aa (af g 0 rfl) (aa ah ag))) ag)))) (al g (j:=0) rfl c10 (aa (af g 0 rfl) (aa ah ag))) (fun _ _=>rfl)))
 (aj (ar g 3 rfl rfl (bG ag))
 (aj (gS g (bP (g.gl _ (aC (i:=1) rfl)) n8 (aa (af g 2 rfl) ag)) (aL g 4 rfl rfl) (aj (ar g 5 rfl rfl (al g (j:=2) rfl c12 (aa (af g 0 rfl) ag)))
 (aj (br (aN (fc g.room) (al g (j:=0) rfl c10 (aa (af g 0 rfl) (aa ah ag))) ah (nomark _)) (ao (ar g 5 rfl rfl (cm (aa ah (aa ah ag))))) aS)
 (ao (kH (me_bm PySem.F.slot_list_append PySem.F.type_list_append ng (af g 3 rfl) (aa (cm (aa (al g (j:=3) rfl c13 (aa (af g 0 rfl) (aa (af g 1 rfl) ag))) (aa (af g 5 rfl) ag))) ag)))))))
 (ao (ax (af g 3 rfl))))))
theorem my:FnScope fi P_l_rows (ai cX):=⟨rfl,rfl,rfl,by decide +kernel,rfl,by decide +kernel,by decide +kernel⟩
theorem lY:az "_law_rows" cX P_l_rows:=fun _ _ _ _ _ _ us hl=>match us,hl with | [_,_],_=>rfl
abbrev cV:Stmt:=top 22
abbrev ff:List Str:=["_law_number_here"]
abbrev j8:List Str:=["str"]
abbrev P_l_text:List Str:=["_law_number_here"]
theorem nM {X:Cx} {k:Nat} (hsc:X.env.scope=ai cV) (g:Good X ff ff j8 k) (dc:DefCx X) (n9:X.mg "str"=none):MSs X (au cV) m_l_text :=
 (aj (br (aN (fc g.room) (aE (af g 0 rfl) ah (fun _ _=>rfl)) ah (nomark _)) (ao (ax (aX g 0 rfl dq n9 PyProof.Rows.Boot.«str» (aa (aE (af g 0 rfl) ah (fun _ _=>rfl)) ag)))) aS)
 (ao (ax (ak ay (ak ay (aX g 0 rfl dq n9 PyProof.Rows.Boot.«str» (aa (aE (af g 0 rfl) ah (fun _ _=>rfl)) ag)) aO) (aX g 0 rfl dq n9 PyProof.Rows.Boot.«str» (aa (aE (af g 0 rfl) ah (fun _ _=>rfl)) ag))))))
theorem mz:FnScope ff P_l_text (ai cV):=⟨rfl,rfl,rfl,by decide +kernel,rfl,by decide +kernel,by decide +kernel⟩
theorem mE:az "_law_text" cV P_l_text:=fun _ _ _ _ _ _ us hl=>match us,hl with | [_],_=>rfl
abbrev cB:Stmt:=top 23
abbrev eh:List Str:=["_law_parts_here"]
abbrev iO:List Str:=[]
abbrev P_l_words:List Str:=["_law_parts_here"]
theorem mM {X:Cx} {k:Nat} (hsc:X.env.scope=ai cB) (g:Good X eh eh iO k) (dc:DefCx X) (c16:Cal X "_law_text" P_l_text cu k) (n9:X.mg "str"=none):MSs X (au cB) m_l_words :=
 (ao (ax (bY g (vars:=["_law_j","_law_number_here"]) (frees:=[]) (G':=["str","_law_text"]) (fm:=[]) (ce (hsc:=hsc) rfl rfl (by decide +kernel)) (by decide +kernel) (by decide +kernel) (by decide +kernel) (fV (af g 0 rfl)) (fun Y y1 y2 y3 y4 y5 y6 g=>have n9:Y.mg "str"=none:=y4.symm▸n9;have c16:=c16.at y1 y2 y3 y4 y5;⟨(fD g (bu (aL g 0 rfl rfl) (bu (aL g 1 rfl rfl) eS))),cz,(ak ay (ak ay (aX g 0 rfl dq n9 PyProof.Rows.Boot.«str» (aa (af g 0 rfl) ag)) aO) (al g (j:=1) rfl c16 (aa (af g 1 rfl) ag)))⟩))))
theorem lh:FnScope eh P_l_words (ai cB):=⟨rfl,rfl,rfl,by decide +kernel,rfl,by decide +kernel,by decide +kernel⟩
theorem lj:az "_law_words" cB P_l_words:=fun _ _ _ _ _ _ us hl=>match us,hl with | [_],_=>rfl
abbrev aZ:Stmt:=top 24
abbrev bO:List Str:=["_law_sheet_here"]
abbrev d3:List Str:=["range"]
abbrev P_l_sheet_lines:List Str:=["_law_sheet_here"]
theorem gM {X:Cx} {k:Nat} (hsc:X.env.scope=ai aZ) (g:Good X bO bO d3 k) (dc:DefCx X) (c17:Cal X "_law_words" P_l_words dm k) (n8:X.mg "range"=none) (n9:X.mg "str"=none):MSs X (au aZ) m_l_sheet_lines :=
 (ao (ax (bY g (vars:=["_law_i"]) (frees:=["_law_sheet_here"]) (G':=["str","_law_words"]) (fm:=[0]) (ce (hsc:=hsc) rfl rfl (by decide +kernel)) (by decide +kernel) (by decide +kernel) (by decide +kernel) (bP (g.gl _ (aC (i:=0) rfl)) n8 (aa (aE (af g 0 rfl) ah (fun _ _=>rfl)) ag)) (fun Y y1 y2 y3 y4 y5 y6 g=>have n9:Y.mg "str"=none:=y4.symm▸n9;have c17:=c17.at y1 y2 y3 y4 y5;⟨(aL g 0 rfl rfl),cz,(dG PySem.F.slot_str_join PySem.F.type_str_join cy aO (aa (ak ay (bG (aa (ak ay (aX g 0 rfl dq n9 PyProof.Rows.Boot.«str» (aa (af g 0 rfl) ag)) aO) ag)) (al g (j:=1) rfl c17 (aa (aE (aE (af g 1 rfl) ah (fun _ _=>rfl)) (af g 0 rfl) (fun _ _=>rfl)) ag))) ag))⟩))))
theorem gz:FnScope bO P_l_sheet_lines (ai aZ):=⟨rfl,rfl,rfl,by decide +kernel,rfl,by decide +kernel,by decide +kernel⟩
theorem gw:az "_law_sheet_lines" aZ P_l_sheet_lines:=fun _ _ _ _ _ _ us hl=>match us,hl with | [_],_=>rfl
abbrev bg:Stmt:=top 25
abbrev bW:List Str:=["_law_rows_here"]
abbrev eP:List Str:=[]
abbrev P_l_rows_lines:List Str:=["_law_rows_here"]
theorem iu {X:Cx} {k:Nat} (hsc:X.env.scope=ai bg) (g:Good X bW bW eP k) (dc:DefCx X) (c17:Cal X "_law_words" P_l_words dm k) (c16:Cal X "_law_text" P_l_text cu k):MSs X (au bg) m_l_rows_lines :=
 (ao (ax (bY g (vars:=["_law_parts_here","_law_right"]) (frees:=[]) (G':=["_law_words","_law_text"]) (fm:=[]) (ce (hsc:=hsc) rfl rfl (by decide +kernel)) (by decide +kernel) (by decide +kernel) (by decide +kernel) (fV (af g 0 rfl)) (fun Y y1 y2 y3 y4 y5 y6 g=>have c17:=c17.at y1 y2 y3 y4 y5;have c16:=c16.at y1 y2 y3 y4 y5;⟨(fD g (bu (aL g 0 rfl rfl) (bu (aL g 1 rfl rfl) eS))),cz,(dG PySem.F.slot_str_join PySem.F.type_str_join cy aO (aa (ak ay (al g (j:=0) rfl c17 (aa (af g 0 rfl) ag)) (bG (aa aO (aa (al g (j:=1) rfl c16 (aa (af g 1 rfl) ag)) ag)))) ag))⟩))))
theorem gH:FnScope bW P_l_rows_lines (ai bg):=⟨rfl,rfl,rfl,by decide +kernel,rfl,by decide +kernel,by decide +kernel⟩
theorem gT:az "_law_rows_lines" bg P_l_rows_lines:=fun _ _ _ _ _ _ us hl=>match us,hl with | [_],_=>rfl
abbrev bI:Stmt:=top 26
abbrev df:List Str:=["_law_found","_law_due"]
abbrev gr:List Str:=["isinstance","str"]
abbrev P_l_is_text:List Str:=["_law_found","_law_due"]
theorem kv {X:Cx} {k:Nat} (hsc:X.env.scope=ai bI) (g:Good X df df gr k) (dc:DefCx X) (n4:X.mg "isinstance"=none) (n9:X.mg "str"=none):MSs X (au bI) m_l_is_text :=
 (ao (ax (md (kg g (i:=0) (j:=1) rfl n4 rfl n9 PyProof.Rows.Boot.«str» okT_str (af g 0 rfl)) (mZ (me_cmp (fc g.room) (af g 0 rfl) (af g 1 rfl) (nomark _))))))
theorem kh:FnScope df P_l_is_text (ai bI):=⟨rfl,rfl,rfl,by decide +kernel,rfl,by decide +kernel,by decide +kernel⟩
theorem j0:az "_law_is_text" bI P_l_is_text:=fun _ _ _ _ _ _ us hl=>match us,hl with | [_,_],_=>rfl
abbrev gj:Stmt:=top 27
abbrev jc:List Str:=["_law_script","_law_turn","_law_pen_here","_law_great","_law_k","_law_number_here","_law_sheet_here","_law_due","_law_rows_here","_law_handed"]
abbrev G_law:List Str:=["range","_law_pen","_law_draw","times","_law_number","_law_is_text","show_number","_law_text","_law_sheet","_law_sheet_lines","show_sheet","_law_rows","_law_rows_lines","list","show_rows"]
abbrev P_law:List Str:=["_law_script"]
theorem b_law {X:Cx} {k:Nat} (hsc:X.env.scope=ai gj) (g:Good X jc jc G_law k) (dc:DefCx X) (c8:Cal X "show_rows" P_show_rows cn k) (c20:Cal X "_law_is_text" P_l_is_text ck k) (c19:Cal X "_law_rows_lines" P_l_rows_lines cW k) (c10:Cal X "_law_draw" P_l_draw av k) (c15:Cal X "_law_rows" P_l_rows gG k) (c7:Cal X "show_sheet" P_show_sheet cM k) (c18:Cal X "_law_sheet_lines" P_l_sheet_lines cO k) (c14:Cal X "_law_sheet" P_l_sheet fv k) (c12:Cal X "_law_number" P_l_number bq k) (c16:Cal X "_law_text" P_l_text cu k) (c5:Cal X "show_number" P_show_number bc k) (c3:Cal X "times" P_times iw k) (c9:Cal X "_law_pen" P_l_pen cv k) (n8:X.mg "range"=none) (n6:X.mg "list"=none):MSs X (au gj) m_law :=
 (aj (gS g (bP (g.gl _ (aC (i:=0) rfl)) n8 (aa ah ag)) (aL g 1 rfl rfl) (aj (ar g 2 rfl rfl (al g (j:=1) rfl c9 (aa (af g 0 rfl) (aa (af g 1 rfl) ag))))
 (aj (ar g 3 rfl rfl (cm (aa ah (aa ah ag))))
 (aj (gS g (bP (g.gl _ (aC (i:=0) rfl)) n8 (aa (al g (j:=2) rfl c10 (aa (af g 2 rfl) (aa ah ag))) ag)) (aL g 4 rfl rfl) (ao (ar g 3 rfl rfl (al g (j:=3) rfl c3 (aa (af g 3 rfl) (aa (al g (j:=4) rfl c12 (aa (af g 2 rfl) ag)) ag))))))
 (aj (gS g (fV (ak ay (bG (aa (cm (aa ah (aa ah ag))) (aa (cm (aa ah (aa ah ag))) (aa (cm (aa (lF jA ah) (aa ah ag))) (aa (af g 3 rfl) ag))))) (bY g (vars:=["_law_k"]) (frees:=["_law_pen_here"]) (G':=["_law_number"]) (fm:=[2]) (ce (hsc:=hsc) rfl rfl (by decide +kernel)) (by decide +kernel) (by decide +kernel) (by decide +kernel) (bP (g.gl _ (aC (i:=0) rfl)) n8 (aa ah ag)) (fun Y y1 y2 y3 y4 y5 y6 g=>have c12:=c12.at y1 y2 y3 y4 y5;⟨(aL g 0 rfl rfl),cz,(al g (j:=0) rfl c12 (aa (af g 1 rfl) ag))⟩)))) (aL g 5 rfl rfl) (ao (br (fE (fC (al g (j:=5) rfl c20 (aa (al g (j:=6) rfl c5 (aa (af g 5 rfl) ag)) (aa (al g (j:=7) rfl c16 (aa (af g 5 rfl) ag)) ag))))) (ao (ax gK)) aS)))
 (aj (ar g 6 rfl rfl (al g (j:=8) rfl c14 (aa (af g 2 rfl) ag)))
 (aj (ar g 7 rfl rfl (dG PySem.F.slot_str_join PySem.F.type_str_join cy aO (aa (al g (j:=9) rfl c18 (aa (af g 6 rfl) ag)) ag)))
 (aj (br (MW.mt (je (fE (fC (al g (j:=5) rfl c20 (aa (al g (j:=10) rfl c7 (aa (af g 6 rfl) ag)) (aa (af g 7 rfl) ag))))) (gW (aN (gb g.room) (al g (j:=10) rfl c7 (aa (af g 6 rfl) ag)) (af g 7 rfl) (nomark _))))) (ao (ax gK)) aS)
 (aj (ar g 8 rfl rfl (al g (j:=11) rfl c15 (aa (af g 2 rfl) (aa (al g (j:=2) rfl c10 (aa (af g 2 rfl) (aa ah ag))) ag))))
 (aj (ar g 7 rfl rfl (dG PySem.F.slot_str_join PySem.F.type_str_join cy aO (aa (al g (j:=12) rfl c19 (aa (af g 8 rfl) ag)) ag)))
 (aj (ar g 9 rfl rfl (aX g 13 rfl cj_list n6 PyProof.Rows.Boot.«list» (aa (af g 8 rfl) ag)))
 (aj (br (MW.mt (je (fE (fC (al g (j:=5) rfl c20 (aa (al g (j:=14) rfl c8 (aa (af g 9 rfl) ag)) (aa (af g 7 rfl) ag))))) (gW (aN (gb g.room) (af g 9 rfl) (af g 8 rfl) (nomark _))))) (ao (ax gK)) aS)
 (aj (kH (me_bm0 PySem.F.slot_list_clear PySem.F.type_list_clear nB (af g 9 rfl)))
 (ao (br (MW.mt (je (aN (gb g.room) (al g (j:=14) rfl c8 (aa (af g 9 rfl) ag)) aO (nomark _)) (gW (aN (gb g.room) (al g (j:=14) rfl c8 (aa (af g 8 rfl) ag)) (af g 7 rfl) (nomark _))))) (ao (ax gK)) aS)))))))))))))))
 (ao (ax gK)))
theorem sc_law:FnScope jc P_law (ai gj):=⟨rfl,rfl,rfl,by decide +kernel,rfl,by decide +kernel,by decide +kernel⟩
theorem mG:az "law" gj P_law:=fun _ _ _ _ _ _ us hl=>match us,hl with | [_],_=>rfl
theorem all_fn {P:Program} {w:World} {K:PySem.W.Frag} {mg:Str→Option Value} {base:Heap} (kin:K.In base) (ns:base.Ns mainGlobals mg)
  (D0:DefAt K "is_whole" bX)
  (D1:DefAt K "greatest_shared" aR)
  (D2:DefAt K "number_of" bL)
  (D3:DefAt K "times" dH)
  (D4:DefAt K "show_whole" bz)
  (D5:DefAt K "show_number" bo)
  (D6:DefAt K "show_parts" bB)
  (D7:DefAt K "show_sheet" bC)
  (D8:DefAt K "show_rows" bK)
  (D9:DefAt K "_law_pen" dI)
  (D10:DefAt K "_law_draw" cU)
  (D11:DefAt K "_law_lowest" cc)
  (D12:DefAt K "_law_number" cb)
  (D13:DefAt K "_law_parts" cA)
  (D14:DefAt K "_law_sheet" cw)
  (D15:DefAt K "_law_rows" cX)
  (D16:DefAt K "_law_text" cV)
  (D17:DefAt K "_law_words" cB)
  (D18:DefAt K "_law_sheet_lines" aZ)
  (D19:DefAt K "_law_rows_lines" bg)
  (D20:DefAt K "_law_is_text" bI)
  (D21:DefAt K "law" gj)
  (z0:PySem.W.nsIn K mainGlobals "abs"=some none)
  (z1:PySem.W.nsIn K mainGlobals "bool"=some none)
  (z2:PySem.W.nsIn K mainGlobals "enumerate"=some none)
  (z3:PySem.W.nsIn K mainGlobals "int"=some none)
  (z4:PySem.W.nsIn K mainGlobals "isinstance"=some none)
  (z5:PySem.W.nsIn K mainGlobals "len"=some none)
  (z6:PySem.W.nsIn K mainGlobals "list"=some none)
  (z7:PySem.W.nsIn K mainGlobals "min"=some none)
  (z8:PySem.W.nsIn K mainGlobals "range"=some none)
  (z9:PySem.W.nsIn K mainGlobals "str"=some none)
  (z10:PySem.W.nsIn K mainGlobals "tuple"=some none)
  (cl:Cl K mg)
   :FnAt P w K mg base "law" P_law f_law 5:=by
 have n0:=PySem.W.mg_none_of kin ns z0
 have n1:=PySem.W.mg_none_of kin ns z1
 have n2:=PySem.W.mg_none_of kin ns z2
 have n3:=PySem.W.mg_none_of kin ns z3
 have n4:=PySem.W.mg_none_of kin ns z4
 have n5:=PySem.W.mg_none_of kin ns z5
 have n6:=PySem.W.mg_none_of kin ns z6
 have n7:=PySem.W.mg_none_of kin ns z7
 have n8:=PySem.W.mg_none_of kin ns z8
 have n9:=PySem.W.mg_none_of kin ns z9
 have n10:=PySem.W.mg_none_of kin ns z10
 have a0:FnAt P w K mg base "is_whole" P_is_whole dE 1:=aI (k:=0) (N:=dC) (G:=hG) kin ns D0 kr kz (by decide +kernel) (by decide +kernel) (by decide +kernel) fun X e1 e2 e3 e4 e5 e6 g dc=>lu e6 g dc (e4▸n4) (e4▸n1) (e4▸n3)
 have a1:FnAt P w K mg base "greatest_shared" P_greatest_shared ci 1:=aI (k:=0) (N:=bw) (G:=dv) kin ns D1 fA fP (by decide +kernel) (by decide +kernel) (by decide +kernel) fun X e1 e2 e3 e4 e5 e6 g dc=>gm e6 g dc
 have a2:FnAt P w K mg base "number_of" P_number_of eB 2:=aI (k:=1) (N:=di) (G:=gq) kin ns D2 j5 jB (by decide +kernel) (by decide +kernel) (by decide +kernel) fun X e1 e2 e3 e4 e5 e6 g dc=>kC e6 g dc ((a1.mono (by decide)).cal e1 e2 e3 e4 e5) ((a0.mono (by decide)).cal e1 e2 e3 e4 e5) (e4▸n0) (e3▸e4▸cl)
 have a3:FnAt P w K mg base "times" P_times iw 3:=aI (k:=2) (N:=f6) (G:=kT) kin ns D3 ot nS (by decide +kernel) (by decide +kernel) (by decide +kernel) fun X e1 e2 e3 e4 e5 e6 g dc=>b_times e6 g dc ((a2.mono (by decide)).cal e1 e2 e3 e4 e5)
 have a4:FnAt P w K mg base "show_whole" P_show_whole cQ 1:=aI (k:=0) (N:=cT) (G:=fO) kin ns D4 jb iY (by decide +kernel) (by decide +kernel) (by decide +kernel) fun X e1 e2 e3 e4 e5 e6 g dc=>jo e6 g dc (e4▸n9)
 have a5:FnAt P w K mg base "show_number" P_show_number bc 2:=aI (k:=1) (N:=cp) (G:=ft) kin ns D5 io iq (by decide +kernel) (by decide +kernel) (by decide +kernel) fun X e1 e2 e3 e4 e5 e6 g dc=>i6 e6 g dc ((a4.mono (by decide)).cal e1 e2 e3 e4 e5) (e4▸n0)
 have a6:FnAt P w K mg base "show_parts" P_show_parts bQ 3:=aI (k:=2) (N:=cI) (G:=fT) kin ns D6 i5 i7 (by decide +kernel) (by decide +kernel) (by decide +kernel) fun X e1 e2 e3 e4 e5 e6 g dc=>jl e6 g dc ((a5.mono (by decide)).cal e1 e2 e3 e4 e5) (e4▸n9)
 have a7:FnAt P w K mg base "show_sheet" P_show_sheet cM 4:=aI (k:=3) (N:=cN) (G:=fJ) kin ns D7 i8 i9 (by decide +kernel) (by decide +kernel) (by decide +kernel) fun X e1 e2 e3 e4 e5 e6 g dc=>jt e6 g dc ((a6.mono (by decide)).cal e1 e2 e3 e4 e5) (e4▸n2)
 have a8:FnAt P w K mg base "show_rows" P_show_rows cn 4:=aI (k:=3) (N:=dj) (G:=gs) kin ns D8 jE jV (by decide +kernel) (by decide +kernel) (by decide +kernel) fun X e1 e2 e3 e4 e5 e6 g dc=>kn e6 g dc ((a6.mono (by decide)).cal e1 e2 e3 e4 e5) ((a5.mono (by decide)).cal e1 e2 e3 e4 e5)
 have a9:FnAt P w K mg base "_law_pen" P_l_pen cv 1:=aI (k:=0) (N:=fW) (G:=k9) kin ns D9 om nk (by decide +kernel) (by decide +kernel) (by decide +kernel) fun X e1 e2 e3 e4 e5 e6 g dc=>b_l_pen e6 g dc (e4▸n0) (e4▸n5) (e4▸n7)
 have a10:FnAt P w K mg base "_law_draw" P_l_draw av 1:=aI (k:=0) (N:=e7) (G:=jn) kin ns D10 mn lW (by decide +kernel) (by decide +kernel) (by decide +kernel) fun X e1 e2 e3 e4 e5 e6 g dc=>nz e6 g dc
 have a11:FnAt P w K mg base "_law_lowest" P_l_lowest eY 1:=aI (k:=0) (N:=dz) (G:=g8) kin ns D11 kA kw (by decide +kernel) (by decide +kernel) (by decide +kernel) fun X e1 e2 e3 e4 e5 e6 g dc=>lE e6 g dc (e4▸n0)
 have a12:FnAt P w K mg base "_law_number" P_l_number bq 2:=aI (k:=1) (N:=dw) (G:=gP) kin ns D12 kB kl (by decide +kernel) (by decide +kernel) (by decide +kernel) fun X e1 e2 e3 e4 e5 e6 g dc=>lr e6 g dc ((a11.mono (by decide)).cal e1 e2 e3 e4 e5) ((a10.mono (by decide)).cal e1 e2 e3 e4 e5)
 have a13:FnAt P w K mg base "_law_parts" P_l_parts dk 3:=aI (k:=2) (N:=d7) (G:=iQ) kin ns D13 lq lI (by decide +kernel) (by decide +kernel) (by decide +kernel) fun X e1 e2 e3 e4 e5 e6 g dc=>lZ e6 g dc ((a10.mono (by decide)).cal e1 e2 e3 e4 e5) ((a12.mono (by decide)).cal e1 e2 e3 e4 e5) (e4▸n8) (e4▸n10)
 have a14:FnAt P w K mg base "_law_sheet" P_l_sheet fv 4:=aI (k:=3) (N:=d9) (G:=iP) kin ns D14 lp lv (by decide +kernel) (by decide +kernel) (by decide +kernel) fun X e1 e2 e3 e4 e5 e6 g dc=>mF e6 g dc ((a13.mono (by decide)).cal e1 e2 e3 e4 e5) ((a10.mono (by decide)).cal e1 e2 e3 e4 e5) (e4▸n8) (e4▸n10)
 have a15:FnAt P w K mg base "_law_rows" P_l_rows gG 4:=aI (k:=3) (N:=fi) (G:=ki) kin ns D15 my lY (by decide +kernel) (by decide +kernel) (by decide +kernel) fun X e1 e2 e3 e4 e5 e6 g dc=>nU e6 g dc ((a13.mono (by decide)).cal e1 e2 e3 e4 e5) ((a10.mono (by decide)).cal e1 e2 e3 e4 e5) ((a12.mono (by decide)).cal e1 e2 e3 e4 e5) (e4▸n8)
 have a16:FnAt P w K mg base "_law_text" P_l_text cu 1:=aI (k:=0) (N:=ff) (G:=j8) kin ns D16 mz mE (by decide +kernel) (by decide +kernel) (by decide +kernel) fun X e1 e2 e3 e4 e5 e6 g dc=>nM e6 g dc (e4▸n9)
 have a17:FnAt P w K mg base "_law_words" P_l_words dm 2:=aI (k:=1) (N:=eh) (G:=iO) kin ns D17 lh lj (by decide +kernel) (by decide +kernel) (by decide +kernel) fun X e1 e2 e3 e4 e5 e6 g dc=>mM e6 g dc ((a16.mono (by decide)).cal e1 e2 e3 e4 e5) (e4▸n9)
 have a18:FnAt P w K mg base "_law_sheet_lines" P_l_sheet_lines cO 3:=aI (k:=2) (N:=bO) (G:=d3) kin ns D18 gz gw (by decide +kernel) (by decide +kernel) (by decide +kernel) fun X e1 e2 e3 e4 e5 e6 g dc=>gM e6 g dc ((a17.mono (by decide)).cal e1 e2 e3 e4 e5) (e4▸n8) (e4▸n9)
 have a19:FnAt P w K mg base "_law_rows_lines" P_l_rows_lines cW 3:=aI (k:=2) (N:=bW) (G:=eP) kin ns D19 gH gT (by decide +kernel) (by decide +kernel) (by decide +kernel) fun X e1 e2 e3 e4 e5 e6 g dc=>iu e6 g dc ((a17.mono (by decide)).cal e1 e2 e3 e4 e5) ((a16.mono (by decide)).cal e1 e2 e3 e4 e5)
 have a20:FnAt P w K mg base "_law_is_text" P_l_is_text ck 1:=aI (k:=0) (N:=df) (G:=gr) kin ns D20 kh j0 (by decide +kernel) (by decide +kernel) (by decide +kernel) fun X e1 e2 e3 e4 e5 e6 g dc=>kv e6 g dc (e4▸n4) (e4▸n9)
 have a21:FnAt P w K mg base "law" P_law f_law 5:=aI (k:=4) (N:=jc) (G:=G_law) kin ns D21 sc_law mG (by decide +kernel) (by decide +kernel) (by decide +kernel) fun X e1 e2 e3 e4 e5 e6 g dc=>b_law e6 g dc ((a8.mono (by decide)).cal e1 e2 e3 e4 e5) ((a20.mono (by decide)).cal e1 e2 e3 e4 e5) ((a19.mono (by decide)).cal e1 e2 e3 e4 e5) ((a10.mono (by decide)).cal e1 e2 e3 e4 e5) ((a15.mono (by decide)).cal e1 e2 e3 e4 e5) ((a7.mono (by decide)).cal e1 e2 e3 e4 e5) ((a18.mono (by decide)).cal e1 e2 e3 e4 e5) ((a14.mono (by decide)).cal e1 e2 e3 e4 e5) ((a12.mono (by decide)).cal e1 e2 e3 e4 e5) ((a16.mono (by decide)).cal e1 e2 e3 e4 e5) ((a5.mono (by decide)).cal e1 e2 e3 e4 e5) ((a3.mono (by decide)).cal e1 e2 e3 e4 e5) ((a9.mono (by decide)).cal e1 e2 e3 e4 e5) (e4▸n8) (e4▸n6)
 exact a21
end Law
open PySem PySem.W PyProof.Rows
local macro_rules | `(tactic| and_intros) => `(tactic| (dsimp only [L2.KOf]; first | k_is | (refine' MM.defAt_mk ?a ?l ?c ?k; (case a => k_is); (case l => k_is); (case c => k_is); (case k => k_is))))
set_option maxRecDepth 100000 in
set_option maxHeartbeats 0 in
theorem PySem.Challenge.cw_fewfills_k45_numbers_sheets_rows_shown_holds : PySem.Challenge.rw_fewfills_k45_numbers_sheets_rows_shown.Holds := by
  w_on; o_law; k_head; (case hw=>w_witness2)
  k_fill
  refine MM.walk_M (l:=PySem.Challenge.rw_fewfills_k45_numbers_sheets_rows_shown) (k:=5) (x:="_law_script") (F:=Law.f_law) rfl rfl ⟨rfl,by decide,by decide,rfl⟩ (fun w h Y=>PySem.W.kIn_of Y) ?F Law.law_true
  case F=>
    intro w mg fa h KX G hmg
    have Dlaw:MM.DefAt (L2.KOf KX) "law" Law.gj:=by and_intros
    have D0:MM.DefAt (L2.KOf KX) "is_whole" Law.bX:=by and_intros
    have D1:MM.DefAt (L2.KOf KX) "greatest_shared" Law.aR:=by and_intros
    have D2:MM.DefAt (L2.KOf KX) "number_of" Law.bL:=by and_intros
    have D3:MM.DefAt (L2.KOf KX) "times" Law.dH:=by and_intros
    have D4:MM.DefAt (L2.KOf KX) "show_whole" Law.bz:=by and_intros
    have D5:MM.DefAt (L2.KOf KX) "show_number" Law.bo:=by and_intros
    have D6:MM.DefAt (L2.KOf KX) "show_parts" Law.bB:=by and_intros
    have D7:MM.DefAt (L2.KOf KX) "show_sheet" Law.bC:=by and_intros
    have D8:MM.DefAt (L2.KOf KX) "show_rows" Law.bK:=by and_intros
    have D9:MM.DefAt (L2.KOf KX) "_law_pen" Law.dI:=by and_intros
    have D10:MM.DefAt (L2.KOf KX) "_law_draw" Law.cU:=by and_intros
    have D11:MM.DefAt (L2.KOf KX) "_law_lowest" Law.cc:=by and_intros
    have D12:MM.DefAt (L2.KOf KX) "_law_number" Law.cb:=by and_intros
    have D13:MM.DefAt (L2.KOf KX) "_law_parts" Law.cA:=by and_intros
    have D14:MM.DefAt (L2.KOf KX) "_law_sheet" Law.cw:=by and_intros
    have D15:MM.DefAt (L2.KOf KX) "_law_rows" Law.cX:=by and_intros
    have D16:MM.DefAt (L2.KOf KX) "_law_text" Law.cV:=by and_intros
    have D17:MM.DefAt (L2.KOf KX) "_law_words" Law.cB:=by and_intros
    have D18:MM.DefAt (L2.KOf KX) "_law_sheet_lines" Law.aZ:=by and_intros
    have D19:MM.DefAt (L2.KOf KX) "_law_rows_lines" Law.bg:=by and_intros
    have D20:MM.DefAt (L2.KOf KX) "_law_is_text" Law.bI:=by and_intros
    have Z21:PySem.W.nsIn (L2.KOf KX) mainGlobals "abs" = some none:=by and_intros
    have Z22:PySem.W.nsIn (L2.KOf KX) mainGlobals "bool" = some none:=by and_intros
    have Z23:PySem.W.nsIn (L2.KOf KX) mainGlobals "enumerate" = some none:=by and_intros
    have Z24:PySem.W.nsIn (L2.KOf KX) mainGlobals "int" = some none:=by and_intros
    have Z25:PySem.W.nsIn (L2.KOf KX) mainGlobals "isinstance" = some none:=by and_intros
    have Z26:PySem.W.nsIn (L2.KOf KX) mainGlobals "len" = some none:=by and_intros
    have Z27:PySem.W.nsIn (L2.KOf KX) mainGlobals "list" = some none:=by and_intros
    have Z28:PySem.W.nsIn (L2.KOf KX) mainGlobals "min" = some none:=by and_intros
    have Z29:PySem.W.nsIn (L2.KOf KX) mainGlobals "range" = some none:=by and_intros
    have Z30:PySem.W.nsIn (L2.KOf KX) mainGlobals "str" = some none:=by and_intros
    have Z31:PySem.W.nsIn (L2.KOf KX) mainGlobals "tuple" = some none:=by and_intros
    have CL:Law.ClK (L2.KOf KX):=by
      dsimp only [L2.KOf]
      refine' Law.clK_mk ?a_NoNumber ?e_NoNumber ?ga_NoNumber ?cl_NoNumber ?gt_NoNumber ?mo_NoNumber ?mb_NoNumber
      (case a_NoNumber=>k_is)
      (case e_NoNumber=>k_exc)
      (case ga_NoNumber=>k_is)
      (case cl_NoNumber=>k_is)
      (case gt_NoNumber=>k_is)
      (case mo_NoNumber=>k_is)
      (case mb_NoNumber=>k_is)
    exact MM.head_M Dlaw Law.mG hmg KX G fun base kb nb=>Law.all_fn kb nb D0 D1 D2 D3 D4 D5 D6 D7 D8 D9 D10 D11 D12 D13 D14 D15 D16 D17 D18 D19 D20 Dlaw Z21 Z22 Z23 Z24 Z25 Z26 Z27 Z28 Z29 Z30 Z31  (CL.cl kb nb)
