import PyProof.Rows.All
import Wide.All
import OpenK.AllK
import Wide.FinOn
import Lean
import PyProof.EqAt
import PyProof.EqKinds
import PyProof.TupleCall
import PyProof.ReprRoads
import PyProof.FitsInt
import PyProof.FitsBits
import PyProof.Rows.IntMath
import PyProof.ConsumeWalk
import PyProof.WalkInts
import PyProof.ListRange
import PySem.SetTable
import PyProof.SetKind
import PyProof.TupleKey
import PyProof.DictKinds
import PyProof.IsRules
import PyProof.Rows.SetFrom
import PyProof.CollectIter
import PyProof.ForAny
import PyProof.Rows.SortRuns
import PyProof.Rows.SortKey
import KE.KSortTup
import PyProof.ZipIter
import PyProof.Draws
import PyProof.EnumMake
import PyProof.TupleIter
import PyProof.P3Eq
import PyProof.StrCalls2
import PyProof.StrCalls3
import PyProof.FString
import PyProof.SetRoads
import PySem.Challenge.RW_fewfills_k11_orders_that_keep
set_option Elab.async false
set_option bootstrap.genMatcherCode false
set_option compiler.extract_closed false
set_option linter.all false
set_option maxRecDepth 100000
open PySem
abbrev qaa:=@PySem.W.Frag
abbrev qab:=@List.getElem?_eq_some_iff
abbrev qac:=@List.mem_append_right
abbrev qad:=@List.getElem?_set_ne
abbrev qae:=@Heap.get?_push_of_some
abbrev qaf:=@if_pos
abbrev qag:=@Nat.le_refl
abbrev qah:=@wpAny_bind
abbrev qai:=@if_neg
abbrev qaj:=@List.getElem?_append_left
abbrev qak:=@List.mem_cons_of_mem
abbrev qal:=@List.size_toArray
abbrev qam:=@Bool.false_eq_true
abbrev qan:=@List.mem_cons
abbrev qao:=@Heap.lt_size
abbrev qap:=@Option.map_eq_some_iff
abbrev qaq:=@List.set_cons_succ
abbrev qar:=@List.set_cons_zero
abbrev qas:=@List.getElem?_set_self
abbrev qat:=@Nat.lt_of_lt_of_le
abbrev qau:=@List.getElem?_append_right
abbrev qav:=@List.mem_append
abbrev qaw:=@wpAny_pure
abbrev qax:=@List.getElem?_map
abbrev qay:=@List.mem_append_left
abbrev qaz:=@Heap.get?_push_size
abbrev qaA:=@Nat.le_trans
abbrev qaB:=@List.getElem?_eq_getElem
abbrev qaC:=@List.length_map
abbrev qaD:=@List.extract_eq_take_drop
abbrev qaE:=@List.mem_iff_getElem?
abbrev qaF:=@Array.getElem?_toList
abbrev qaG:=@Nat.zero_le
abbrev qaH:=@List.mem_cons_self
abbrev qaI:=@Bool.false_ne_true
abbrev qaJ:=@Nat.ne_of_lt
abbrev qaK:=@List.lookup_cons
abbrev qaL:=@List.map_cons
abbrev qaM:=@List.length_cons
abbrev qaN:=@List.length_append
abbrev qaO:=@Nat.lt_irrefl
abbrev qaP:=@Array.toList_append
abbrev qaQ:=@List.drop_eq_getElem_cons
abbrev qaR:=@Array.length_toList
abbrev qaS:=@Array.toList_inj
abbrev qaT:=@Int.toNat_natCast
abbrev qaU:=@Array.getElem?_eq_some_iff
abbrev qaV:=@List.mem_of_getElem?
abbrev qaW:=@List.take_of_length_le
abbrev qaX:=@List.append_assoc
abbrev qaY:=@Array.toList_push
abbrev qaZ:=@Nat.zero_add
abbrev qba:=@List.take_append_drop
abbrev qbb:=@List.mem_map
abbrev qbc:=@List.getElem?_replicate
abbrev qbd:=@List.drop_eq_nil_of_le
abbrev qbe:=@List.replicate_succ
abbrev qbf:=@List.getElem?_eq_none
abbrev qbg:=@Bool.beq_eq_decide_eq
abbrev qbh:=@List.length_nil
abbrev qbi:=@List.not_mem_nil
abbrev qbj:=@Array.size_push
abbrev qbk:=@List.length_replicate
abbrev qbl:=@List.map_map
abbrev qbm:=@List.contains_iff_mem
abbrev qbn:=@Array.toList_extract
abbrev qbo:=@List.flatten_cons
abbrev qbp:=@Bool.not_eq_true'
abbrev qbq:=@Option.bind_eq_some_iff
abbrev qbr:=@Bool.not_true
abbrev qbs:=@Heap.get?_update_ne
abbrev qbt:=@List.length_take
abbrev qbu:=@List.mem_range
abbrev qbv:=@List.mem_singleton
abbrev qbw:=@List.mem_filter
abbrev qbx:=@Array.perm_iff_toList_perm
abbrev qby:=@Int.fmod_eq_emod_of_nonneg
abbrev qbz:=@Heap.size_push
abbrev qbA:=@List.pairwise_iff_getElem
abbrev qbB:=@List.getElem?_eq_none_iff
abbrev qbC:=@Bool.and_eq_true
abbrev qbD:=@List.perm_middle
abbrev qbE:=@List.all_eq_true
abbrev qbF:=@Nat.le_of_lt
abbrev qbG:=@List.getElem?_take_of_lt
abbrev qbH:=@List.map_nil
abbrev qbI:=@List.mem_filterMap
abbrev qbJ:=@List.append_nil
abbrev qbK:=@Option.map_some
abbrev qbL:=@List.length_eq_zero_iff
abbrev qbM:=@Array.getElem?_extract
abbrev qbN:=@Array.size_append
abbrev qbO:=@List.ext_getElem?
abbrev qbP:=@List.drop_zero
abbrev qbQ:=@Nat.ne_of_gt
abbrev qbR:=@List.all_map
abbrev qbS:=@List.length_drop
abbrev qbT:=@Nat.lt_succ_self
abbrev qbU:=@Option.bind_some
abbrev qbV:=@List.take_append_of_le_length
abbrev qbW:=@Array.toList_reverse
abbrev qbX:=@List.getElem?_zipIdx
abbrev qbY:=@Array.getElem?_setIfInBounds
abbrev qbZ:=@List.filterMap_cons
abbrev qca:=@List.nodup_cons
abbrev qcb:=@Nat.min_eq_left
abbrev qcc:=@Array.getElem?_eq_none_iff
abbrev qcd:=@List.pairwise_cons
abbrev qce:=@List.getElem?_drop
abbrev qcf:=@Bool.not_eq_false'
abbrev qcg:=@List.nodup_append
abbrev qch:=@Nat.lt_succ_of_lt
abbrev qci:=@List.getElem?_cons_succ
abbrev qcj:=@List.pairwise_mergeSort
abbrev qck:=@List.getElem_mem
abbrev qcl:=@Heap.get?_update_other
abbrev qcm:=@List.range_succ_eq_map
abbrev qcn:=@List.pairwise_lt_range
abbrev qco:=@List.filter_eq_nil_iff
abbrev qcp:=@List.of_mem_zip
abbrev qcq:=@Heap.get?_update_self
abbrev qcr:=@Nat.lt_trans
abbrev qcs:=@List.getElem?_toArray
abbrev qct:=@List.perm_append_comm
abbrev qcu:=@Nat.le_succ
abbrev qcv:=@List.any_cons
abbrev qcw:=@Nat.sub_zero
namespace L2
open PySem PySem.Spec PyProof.Rows
abbrev Key:=Sum Int Str
def keyIs:Key->Value->Bool
 | .inl k,v=>Value.isInt k v
 | .inr x,v=>Value.isStrOf x v
def keyH(w:World):Key->Int
 | .inl k=>hashInt k
 | .inr x=>hashStr w x
theorem bu:∀{k:Key} {v:Value},keyIs k v=true->(∃i t,k=Sum.inl i/\v=Value.int i t)\/(∃x t,k=Sum.inr x/\v=Value.str x t)
 | .inl i,v,h=>by
  obtain⟨t,e⟩:=Value.isInt_shape (k:=i) (v:=v) h;exact .inl ⟨i,t,rfl,e⟩
 | .inr x,v,h=>by
  obtain⟨t,e⟩:=Value.isStrOf_shape (x:=x) (v:=v) h;exact .inr ⟨x,t,rfl,e⟩
theorem key_ll(a b:Int):decide ((Sum.inl a:Key)=Sum.inl b)=(a == b):=by
 by_cases e:a=b
 ·subst e;simp
 ·have h:¬(Sum.inl a:Key)=Sum.inl b:=fun q=>e (Sum.inl.inj q);rw[decide_eq_false h];exact (beq_eq_false_iff_ne.mpr e).symm
theorem key_rr(a b:Str):decide ((Sum.inr a:Key)=Sum.inr b)=decide (a=b):=by
 by_cases e:a=b
 ·subst e;simp
 ·have h:¬(Sum.inr a:Key)=Sum.inr b:=fun q=>e (Sum.inr.inj q);rw[decide_eq_false h,decide_eq_false e]
theorem key_lr(a:Int)(b:Str):decide ((Sum.inl a:Key)=Sum.inr b)=false:=decide_eq_false (fun q=>nomatch q)
theorem key_rl(a:Str)(b:Int):decide ((Sum.inr a:Key)=Sum.inl b)=false:=decide_eq_false (fun q=>nomatch q)
def kj(prog:Program)(w:World):PySem.KeyKind prog w Key where
 is:=keyIs
 hash:=keyH w
 inj:=fun v a b ha hb=>by
  rcases bu ha with ⟨i,t,rfl,rfl⟩|⟨x,t,rfl,rfl⟩
  ·rcases bu hb with ⟨j,u,rfl,e⟩|⟨y,u,rfl,e⟩
   ·injection e with e1 _;rw[e1]
   ·exact nomatch e
  ·rcases bu hb with ⟨j,u,rfl,e⟩|⟨y,u,rfl,e⟩
   ·exact nomatch e
   ·injection e with e1 _;rw[e1]
 byValue:=fun k v h=>by
  rcases bu h with ⟨i,t,rfl,rfl⟩|⟨x,t,rfl,rfl⟩ <;> rfl
 pyHash:=fun hv h=>by
  rcases bu hv with ⟨i,t,rfl,rfl⟩|⟨x,t,rfl,rfl⟩
  ·exact wpAny_pyHash_int h
  ·exact wpAny_pyHash_str h
 eqBool:=fun hu hv h=>by
  rcases bu hu with ⟨i,t,rfl,rfl⟩|⟨x,t,rfl,rfl⟩
  ·rcases bu hv with ⟨j,u,rfl,rfl⟩|⟨y,u,rfl,rfl⟩
   ·rw[key_ll] at h;exact wpAny_eqBool_int h
   ·rw[key_lr] at h;exact SeqAt.EqAt.int_str i t y u _ _ _ _ h
  ·rcases bu hv with ⟨j,u,rfl,rfl⟩|⟨y,u,rfl,rfl⟩
   ·rw[key_rl] at h;exact SeqAt.EqAt.str_int x t j u _ _ _ _ h
   ·rw[key_rr] at h;exact wpAny_eqBool_str h
 «strs»:=fun k x t v h=>by
  rcases bu h with ⟨i,u,rfl,e⟩|⟨y,u,rfl,e⟩
  ·exact nomatch e
  ·injection e with e1 _
   subst e1;cases v <;> rfl
inductive V where
 | non | bl (b:Bool) | int (i:Int) | str (x:Str) | byt (b:Array UInt8) | flt (b:UInt64) | ref (a:Addr) | ty (n:String)
 deriving DecidableEq
def aK:V->Value->Prop
 | .non,u=>u=Value.none
 | .bl b,u=>u=Value.bool b
 | .int i,u=>∃t,u=Value.int i t
 | .str x,u=>∃t,u=Value.str x t
 | .byt b,u=>∃t,u=Value.bytes b t
 | .flt b,u=>∃t,u=Value.float b t
 | .ref a,u=>u=Value.ref a
 | .ty n,u=>u=Value.type n
abbrev ar:List V->List Value->Prop:=Paired aK
theorem ar.length(r:ar xs us):xs.length=us.length:=Paired.length r
theorem ar.get{xs:List V}{us:List Value}{i:Nat}{x:V}(r:ar xs us)(e:xs[i]?=some x):∃u,us[i]?=some u/\aK x u:=by
 induction r generalizing i with
 | nil=>cases e
 | cons r t ih =>
  cases i with
  | zero=>cases e;exact⟨_,rfl,r⟩
  | succ i=>have z:=@ih i e;exact z
theorem ar.set(r:aK x u)(i:Nat)(q:ar xs us):ar (xs.set i x) (us.set i u):=by
 induction q generalizing i with
 | nil=>exact .nil
 | cons a t ih =>
  cases i with
  | zero=>exact .cons r t
  | succ i=>exact .cons a (ih i)
theorem ar.append(r:ar xs us)(s:ar ys ws):ar (xs++ys) (us++ws):=by
 induction r with
 | nil=>exact s
 | cons r t ih=>exact .cons r ih
theorem ar.take(n:Nat)(r:ar xs us):ar (xs.take n) (us.take n):=by
 induction r generalizing n with
 | nil=>cases n <;> exact .nil
 | cons a t ih =>
  cases n with
  | zero=>exact .nil
  | succ n=>exact .cons a (ih n)
theorem ar.drop(n:Nat)(r:ar xs us):ar (xs.drop n) (us.drop n):=by
 induction r generalizing n with
 | nil=>cases n <;> exact .nil
 | cons a t ih =>
  cases n with
  | zero=>exact .cons a t
  | succ n=>exact ih n
def RelO:Option V->Option Value->Prop
 | some v,some u=>aK v u
 | none,none=>True
 | _,_=>False
def KV{κ:Type}:List (κ × V)->List (κ × Value)->Prop:=Paired fun (p:κ × V) (q:κ × Value)=>p.1=q.1/\aK p.2 q.2
def kV:Key->V
 | .inl i=>.int i
 | .inr x=>.str x
inductive HO where
 | lst (xs:List V)
 | tup (xs:List V)
 | dK (kvs:List (Key × V)) | dT (kvs:List (List Key × V))
 | set (S:Int->Bool) (n:Nat)
 | ins (C dx:Addr) (fs:List (Str × V))
 | own (x:Addr)
 | xd (fs:List (Str × V))
 | met (f x:Addr)
 | rng (lo hi:Int)
 | frz (o:Obj) (u:HO)
 | tbl (ps:Array Value)
 | ext (φ:Heap->Prop)
abbrev Hp:=Addr->Option HO
def upd(H:Hp)(a:Addr)(o:HO):Hp:=fun b=>if b=a then some o else H b
theorem bz:upd H a o a=some o:=by unfold upd;rw[qaf rfl]
theorem aH(h:b≠a):upd H a o b=H b:=by unfold upd;rw[qai h]
theorem bh{H:Hp}{a b:Addr}{o:HO}(h:H a=some o)(h':H b=none):a≠b:=by
 intro e;subst e;rw[h] at h';cases h'
def eA(h:Heap)(a:Addr)(its:Array Value):Prop:=∃o,h.get? a=some o/\o.cls=.type "tuple"/\(∃n,o.data=.seq its n)/\o.dict=none
theorem eA.tup(t:eA h a its):IsTup h a its:=let ⟨o,e,c,d,_⟩:=t;⟨o,e,c,d⟩
theorem eA.lt(t:eA h a its):a<h.objs.size:=t.tup.lt
theorem eA.new(h:Heap)(its:Array Value):eA (h.push { cls:=.type "tuple",data:=.seq its}) h.objs.size its:=⟨_,qaz h rfl,rfl,⟨_,rfl⟩,rfl⟩
section
variable (P:Program) (w:World)
def ObjOk(H:Hp)(h:Heap)(a:Addr):HO->Prop
 | .lst xs=>xs.length<=sizeLine/\∃(its:List Value) (n:Nat),ar xs its/\h.get? a=some { cls:=.type "list",data:=.seq its.toArray n}
 | .tup xs=>xs.length<=sizeLine/\∃its:List Value,ar xs its/\eA h a its.toArray
 | .dK kvs=>kvs.length<=sizeLine/\(a == sysModules)=false/\∃vs,KV kvs vs/\h.DictOf (kj P w) a vs
 | .dT kvs=>kvs.length<=sizeLine/\(a == sysModules)=false/\∃xs:List (List Key × Addr × Value),
   Paired (fun (p:List Key × V) (q:List Key × Addr × Value)=>p.1=q.1/\H q.2.1=some (.tup (p.1.map kV))/\aK p.2 q.2.2) kvs xs /\
   ∃o es ep,h.get? a=some o/\o.ExactDict/\o.data=.dict es ep/\es.toList=xs.map (entryOfKey (tupleKind (kj P w)))/\(xs.map (·.1)).Nodup
 | .set S n=>h.SetOf (intKind P w) a S n
 | .ins C dx fs=>H dx=some (.own a)/\fs.length<=1000/\dx≠a/\h.get? a=some (PySem.W.instObj C dx) /\
   ∃mA,h.Ns1 dx mA/\(∀f,RelO (fs.lookup f) (mA f))/\PySem.Within mA (fs.map (·.1))
 | .own _=>∃o,h.get? a=some o
 | .xd fs=>∃mA,h.Ns1 a mA/\∀f,RelO (fs.lookup f) (mA f)
 | .rng lo hi=>∃t u v,h.get? a=some { cls:=.type "range",data:=.fields #[.int lo t,.int hi u,.int 1 v]}
 | .frz o u=>h.get? a=some o/\ObjOk H h a u
 | .tbl ps=>h.get? a=some { cls:=.none,data:=.fields ps}
 | .met f x=>h.get? a=some (PySem.W.methodObj (.ref f) (.ref x))
 | .ext φ=>φ h/\(∃o,h.get? a=some o)/\∀h1 h2:Heap,φ h1->(∀o,h1.get? a=some o->h2.get? a=some o)->φ h2
def HOk(H:Hp)(h:Heap):Prop:=∀a o,H a=some o->ObjOk P w H h a o
end
section
variable {P:Program} {w:World} {H H':Hp} {h h':Heap} {a:Addr} {o:HO}
theorem ObjOk.lt(x:ObjOk P w H h a o):a<h.objs.size:=by
 cases o with
 | lst xs=>obtain⟨_,_,_,_,e⟩:=x;exact qao e
 | tup xs=>obtain⟨_,_,_,p⟩:=x;exact p.lt
 | dK kvs=>obtain⟨_,_,_,_,o,_,_,e,_⟩:=x;exact qao e
 | dT kvs=>obtain⟨_,_,_,_,o,_,_,e,_⟩:=x;exact qao e
 | set S n=>obtain⟨o,_,_,_,e,_⟩:=x;exact qao e
 | ins C dx fs=>obtain⟨_,_,_,e,_⟩:=x;exact qao e
 | own y=>obtain⟨_,e⟩:=x;exact qao e
 | xd fs=>obtain⟨_,⟨_,_,_,e,_⟩,_⟩:=x;exact qao e
 | rng lo hi=>obtain⟨_,_,_,e⟩:=x;exact qao e
 | frz ob u=>obtain⟨e,_⟩:=x;exact qao e
 | tbl ps=>exact qao (show h.get? a=some _ from x)
 | met f y=>exact qao (show h.get? a=some _ from x)
 | ext φ=>obtain⟨_,⟨_,e⟩,_⟩:=x;exact qao e
theorem Paired.mapP{α β:Type}{F G:α->β->Prop}{l₁:List α}{l₂:List β}(r:Paired F l₁ l₂)(f:∀a b,F a b->G a b):Paired G l₁ l₂:=by
 induction r with
 | nil=>exact .nil
 | cons r t ih=>exact .cons (f _ _ r) ih
theorem ObjOk.stay(x:ObjOk P w H h a o)(k:∀b u,(b=a\/H b=some (.own a))->h.get? b=some u->h'.get? b=some u)
  (ho:∀b,H b=some (.own a)->H' b=some (.own a)) (ht:∀b xs,H b=some (.tup xs)->H' b=some (.tup xs)):ObjOk P w H' h' a o:=by
 induction o with
 | lst xs=>obtain⟨z,its,n,r,e⟩:=x;exact⟨z,its,n,r,k _ _ (.inl rfl) e⟩
 | tup xs=>obtain⟨z,its,r,ob,e,c⟩:=x;exact⟨z,its,r,ob,k _ _ (.inl rfl) e,c⟩
 | dK kvs=>obtain⟨z,y,vs,r,ob,es,ep,e,c⟩:=x;exact⟨z,y,vs,r,ob,es,ep,k _ _ (.inl rfl) e,c⟩
 | dT kvs =>
  obtain⟨z,y,xs,r,ob,es,ep,e,c⟩:=x;exact⟨z,y,xs,Paired.mapP r fun p q z=>⟨z.1,ht _ _ z.2.1,z.2.2⟩,ob,es,ep,k _ _ (.inl rfl) e,c⟩
 | set S n=>obtain⟨ob,es,ep,t,e,c⟩:=x;exact⟨ob,es,ep,t,k _ _ (.inl rfl) e,c⟩
 | ins C dx fs =>
  obtain⟨d,z,ne,e,mA,⟨od,es,ep,e2,c⟩,r⟩:=x;exact⟨ho _ d,z,ne,k _ _ (.inl rfl) e,mA,⟨od,es,ep,k _ _ (.inr d) e2,c⟩,r⟩
 | own y=>obtain⟨ob,e⟩:=x;exact⟨ob,k _ _ (.inl rfl) e⟩
 | xd fs=>obtain⟨mA,⟨od,es,ep,e,c⟩,r⟩:=x;exact⟨mA,⟨od,es,ep,k _ _ (.inl rfl) e,c⟩,r⟩
 | rng lo hi=>obtain⟨t,u,v,e⟩:=x;exact⟨t,u,v,k _ _ (.inl rfl) e⟩
 | frz ob u ih=>obtain⟨e,q⟩:=x;exact⟨k _ _ (.inl rfl) e,ih q⟩
 | tbl ps =>
  have e:h.get? a=some { cls:=.none,data:=.fields ps}:=x;show h'.get? a=some { cls:=.none,data:=.fields ps};exact k a _ (.inl rfl) e
 | met f y =>
  have e:h.get? a=some (PySem.W.methodObj (.ref f) (.ref y)):=x;show h'.get? a=some (PySem.W.methodObj (.ref f) (.ref y));exact k a _ (.inl rfl) e
 | ext φ=>obtain⟨p,⟨o,e⟩,st⟩:=x;exact⟨st _ _ p fun o q=>k _ _ (.inl rfl) q,⟨o,k _ _ (.inl rfl) e⟩,st⟩
theorem HOk.lt(x:HOk P w H h)(e:H a=some o):a<h.objs.size:=(x a o e).lt
theorem HOk.fresh(x:HOk P w H h)(e:h.objs.size<=a):H a=none:=by
 cases q:H a with
 | none=>rfl
 | some u=>exact absurd (qat (x.lt q) e) (qaO _)
theorem HOk.kept(x:HOk P w H h)(k:∀b u,h.get? b=some u->h'.get? b=some u):HOk P w H h':=fun a o e =>
 (x a o e).stay (fun b u _ q=>k b u q) (fun _ q=>q) fun _ _ q=>q
theorem HOk.laid(x:HOk P w H h)(k:∀b u,h.get? b=some u->h'.get? b=some u)(hp:h.objs.size<=a)(new:ObjOk P w (upd H a o) h' a o):HOk P w (upd H a o) h':=fun b u e=>by
 have hn:=x.fresh hp;by_cases hb:b=a
 ·subst hb;rw[bz] at e;cases e;exact new
 ·rw[aH hb] at e;exact (x b u e).stay (fun c v _ q=>k c v q) (fun c q=>by rw[aH (bh q hn)];exact q) fun c xs q=>by rw[aH (bh q hn)];exact q
end
def Rd(H:Hp)(a:Addr)(u:HO):Prop:=H a=some u\/∃o,H a=some (.frz o u)
theorem Rd.ok(r:Rd H a u)(x:HOk P w H h):ObjOk P w H h a u:=by
 rcases r with r|⟨o,r⟩
 ·exact x a u r
 ·obtain⟨_,q⟩:=x a _ r;exact q
def Mut:Option HO->Prop
 | some (.lst _)=>True
 | some (.dK _)=>True
 | some (.dT _)=>True
 | some (.set _ _)=>True
 | some (.ins _ _ _)=>True
 | some (.ext _)=>True
 | _=>False
section
variable {P:Program} {w:World} {H:Hp} {h h':Heap} {x e:Addr} {o':HO}
theorem HOk.write(ok:HOk P w H h)(mu:Mut (H x))(he:e=x\/H e=some (.own x))(k:∀b u,b≠e->h.get? b=some u->h'.get? b=some u)(heo:∃u,h'.get? e=some u)
  (new:ObjOk P w (upd H x o') h' x o'):HOk P w (upd H x o') h':=fun b u q=>by
 have nown:∀c y,H c=some (.own y)->c≠x:=fun c y r z=>by subst z;rw[r] at mu;exact mu
 have ntup:∀c xs,H c=some (.tup xs)->c≠x:=fun c xs r z=>by subst z;rw[r] at mu;exact mu
 by_cases hb:b=x
 ·subst hb;rw[bz] at q;cases q;exact new
 ·rw[aH hb] at q;by_cases hbe:b=e
  ·have q':H b=some (.own x):=by
    rcases he with z|z
    ·exact absurd (hbe.trans z) hb
    ·rw[hbe];exact z
   rw[q] at q';cases q';obtain⟨v,hv⟩:=heo;exact⟨v,by rw[hbe];exact hv⟩
  ·refine (ok b u q).stay (fun c v hc r=>k c v ?_ r) (fun c r=>by rw[aH (nown c b r)];exact r) fun c xs r=>by rw[aH (ntup c xs r)];exact r
   rcases hc with rfl|hc
   ·exact hbe
   ·rintro rfl;rcases he with z|z
    ·exact nown c b hc z
    ·rw[hc] at z;cases z;exact hb rfl
end
structure Un (fs ex:List Addr) (H H':Hp) (h h':Heap):Prop where
 keep:∀b o,h.get? b=some o->H b=none->b∉fs->b∉ex->h'.get? b=some o
 slot:∀b o,h.get? b=some o->H b=none->b∈fs->b∉ex->∃sl,h'.get? b=some { o with slots:=sl}
 free:∀b o,h.get? b=some o->H b=none->b∉ex->H' b=none
 there:∀b o,h.get? b=some o->b∉ex->∃o',h'.get? b=some o'
 tups:∀b xs,H b=some (.tup xs)->H' b=some (.tup xs)
 frzs:∀b o u,H b=some (.frz o u)->H' b=some (.frz o u)
 tbls:∀b ps,H b=some (.tbl ps)->∃more,H' b=some (.tbl (ps++more))
section
variable {fs fs' ex ex':List Addr} {H H1 H2:Hp} {h h1 h2 h':Heap} {a x e:Addr} {o:HO}
theorem Un.any(u:Un fs ex H H1 h h1)(q:h.get? b=some ob)(n:H b=none)(hx:b∉ex):∃sl,h1.get? b=some { ob with slots:=sl}:=by
 by_cases hb:b∈fs
 ·exact u.slot b ob q n hb hx
 ·exact⟨ob.slots,u.keep b ob q n hb hx⟩
theorem Un.kept(k:∀b u,h.get? b=some u->h'.get? b=some u):Un fs ex H H h h' :=
 ⟨fun b ob q _ _ _=>k b ob q,fun b ob q _ _ _=>⟨ob.slots,k b ob q⟩,fun _ _ _ n _=>n,fun b ob q _=>⟨ob,k b ob q⟩,fun _ _ q=>q,fun _ _ _ q=>q,fun _ ps q=>⟨#[],by rw[q];simp⟩⟩
theorem Un.refl:Un fs ex H H h h:=Un.kept fun _ _ q=>q
theorem Un.laid(k:∀b u,h.get? b=some u->h'.get? b=some u)(hp:h.objs.size<=a)(hn:H a=none):Un fs ex H (upd H a o) h h' where
 keep:=fun b u q _ _ _=>k b u q
 slot:=fun b u q _ _ _=>⟨u.slots,k b u q⟩
 free:=fun b u q n _=>by rw[aH (qaJ (qat (qao q) hp))];exact n
 there:=fun b u q _=>⟨u,k b u q⟩
 tups:=fun b xs q=>by rw[aH (bh q hn)];exact q
 frzs:=fun b u xs q=>by rw[aH (bh q hn)];exact q
 tbls:=fun b ps q=>⟨#[],by rw[aH (bh q hn),q];simp⟩
theorem Un.write(mu:Mut (H x))(he:e=x\/H e=some (.own x))(k:∀b u,b≠e->h.get? b=some u->h'.get? b=some u)(heo:∃u,h'.get? e=some u):Un fs ex H (upd H x o) h h':=by
 have hx:∀b,H b=none->b≠x:=fun b n z=>by subst z;rw[n] at mu;exact mu
 have hb:∀b,H b=none->b≠e:=fun b n z=>by
  subst z;rcases he with r|r
  ·exact hx b n r
  ·rw[n] at r;cases r
 have hm:∀b u,H b=some u->¬Mut (some u)->b≠x:=fun b u q nm z=>by subst z;rw[q] at mu;exact nm mu
 refine⟨fun b u q n _ _=>k b u (hb b n) q,fun b u q n _ _=>⟨u.slots,k b u (hb b n) q⟩,fun b u q n _=>by rw[aH (hx b n)];exact n,fun b u q _=>?_,
  fun b xs q=>by rw[aH (hm b _ q fun z=>z)];exact q,fun b u xs q=>by rw[aH (hm b _ q fun z=>z)];exact q,fun b ps q=>⟨#[],by rw[aH (hm b _ q fun z=>z),q];simp⟩⟩
 by_cases hbe:b=e
 ·subst hbe;exact heo
 ·exact⟨u,k b u hbe q⟩
end
def trk(h:Heap)(H:Hp):List Addr:=(List.range h.objs.size).filter fun a=>(H a).isSome
def gv(h:Heap)(H:Hp):Heap:=PySem.W.hideAll h (trk h H)
theorem re(h:Heap)(H:Hp):(gv h H).objs.size=h.objs.size:=PySem.W.hideAll_size _ _
theorem ur(e:h.get? b=some o)(n:H b=none):(gv h H).get? b=some o :=
 PySem.W.hideAll_get _ e fun hm=>by
  have q:(H b).isSome=true:=(qbw.mp hm).2;rw[n] at q;simp at q
theorem of_hidT(e:(gv h H).get? b=some o):h.get? b=some o/\H b=none:=by
 have e':h.get? b=some o:=PySem.W.of_hideAll (trk h H) e;refine⟨e',?_⟩
 cases q:H b with
 | none=>rfl
 | some x =>
  have hm:b∈trk h H:=qbw.mpr ⟨qbu.mpr (qao e'),by simp[q]⟩;have z:(gv h H).get? b=none:=PySem.W.hideAll_none (trk h H) hm;rw[z] at e;cases e
structure Mod (K:qaa) (mg:Str->Option Value) (base:Heap):Prop where
 kin:K.In base
 glob:base.Ns mainGlobals mg
 blt:∃mb,base.Ns builtinsNs mb/\∀x:Str,x≠"__name__"->mb x=bootBuiltins x
 nolimit:base.NoLimit
structure Cx where
 prog:Program
 w:World
 K:qaa
 mg:Str->Option Value
 base:Heap
 A:Around
 N:List Str
 s₀:Shared
 H₀:Hp
 env:Env
 outer:List Env
 stack:List Env
 ex:List Addr
 fn:Str->Bool
 calm:Bool
 pn:List (Addr × Obj)
 xe:Value->Shared->Prop
def frs(l:List Env):List Addr:=l.filterMap (·.frame)
abbrev Cx.fs(X:Cx):List Addr:=frs X.outer
def Vis(sc:Scope)(x:Str):Prop:=sc.names.lookup x=some .local\/sc.names.lookup x=some .cell\/sc.names.lookup x=some .free
def Loc(sc:Scope)(x:Str):Prop:=sc.names.lookup x=some .local\/sc.names.lookup x=some .cell
def Look(env:Env)(h:Heap)(m:Str->Option Value)(x:Str)(u:Value):Prop :=
 (env.kindOf x=some .local/\m x=some u)\/((env.kindOf x=some .cell\/env.kindOf x=some .free)/\∃c,env.cells.lookup x=some c/\h.IsCell c (some u))
structure Cx.Ok (X:Cx):Prop where
 mod:Mod X.K X.mg X.base
 kind:X.env.scope.kind=.function
 glob:X.env.globals=mainGlobals
 blt:X.env.builtins=builtinsNs
 above:X.s₀.heap.objs.size<=X.env.locals
 inj:∀x y c,X.env.cells.lookup x=some c->X.env.cells.lookup y=some c->x=y
 has:∀x,(X.env.kindOf x=some .cell\/X.env.kindOf x=some .free)->∃c,X.env.cells.lookup x=some c
 cab:∀x c,X.fn x=true->X.env.cells.lookup x=some c->X.s₀.heap.objs.size<=c
 hd:X.calm=true->X.A.handled=none
 frames:X.A.frames=some X.stack
 stk:X.stack=X.outer\/(X.stack=X.env::X.outer/\X.env.frame=some X.env.locals)
 exf:∀b∈X.ex,b≠X.env.locals/\∀x c,X.env.cells.lookup x=some c->c≠b
 bs:∀b o,X.base.get? b=some o->X.s₀.heap.get? b=some o/\X.H₀ b=none
 bsz:X.base.objs.size<=X.s₀.heap.objs.size
 noex:∀b o,X.base.get? b=some o->b∉X.ex
 exfs:∀b∈X.ex,b∉X.fs
 funs:X.s₀.heap.FunFrames X.base X.outer
 frf:∀b∈X.fs,X.H₀ b=none
structure Inv (X:Cx) (BN:List (Addr × Obj)) (σ:List (Option V)) (H:Hp) (s:Shared):Prop where
 ok:X.Ok
 os:s.os=X.s₀.os
 bare:AllBare s.gens
 base:Un X.fs X.ex X.H₀ H X.s₀.heap s.heap
 loc:∃m,s.heap.Ns X.env.locals m/\∀(i:Nat) (x:Str) (v:V),X.N[i]?=some x->σ[i]?=some (some v)->Vis X.env.scope x->∃u,aK v u/\Look X.env s.heap m x u
 cell:∀x c,X.env.cells.lookup x=some c->∃v,s.heap.IsCell c v
 free:H X.env.locals=none
 freeC:∀x c,X.env.cells.lookup x=some c->H c=none
 pin:∀p∈X.pn++BN,s.heap.get? p.1=some p.2/\H p.1=none/\p.1≠X.env.locals/\p.1∉X.fs/\∀v,p.2.data≠.cell v
 hok:HOk X.prog X.w H s.heap
 len:σ.length=X.N.length
section
variable {X:Cx} {BN:List (Addr × Obj)} {σ:List (Option V)} {H H':Hp} {s:Shared} {h':Heap}
theorem Cx.Ok.nofr(ok:X.Ok)(e:X.base.get? b=some o):b∉X.fs:=fun hb=>by
 have:=(ok.funs.mem hb).1
 rw[e] at this;cases this
theorem Inv.bs(I:Inv X BN σ H s):∀b o,X.base.get? b=some o->s.heap.get? b=some o/\H b=none:=fun b o e =>
 ⟨I.base.keep b o (I.ok.bs b o e).1 (I.ok.bs b o e).2 (I.ok.nofr e) (I.ok.noex b o e),I.base.free b o (I.ok.bs b o e).1 (I.ok.bs b o e).2 (I.ok.noex b o e)⟩
theorem Inv.bk(I:Inv X BN σ H s):∀b o,X.base.get? b=some o->s.heap.get? b=some o:=fun b o e=>(I.bs b o e).1
theorem Inv.mod(I:Inv X BN σ H s):Mod X.K X.mg X.base:=I.ok.mod
theorem Inv.kIn(I:Inv X BN σ H s):X.K.In s.heap:=I.ok.mod.kin.keeps I.bk
theorem Inv.lt(I:Inv X BN σ H s):X.env.locals<s.heap.objs.size:=let ⟨_,hn,_⟩:=I.loc;hn.lt
theorem Inv.sz(I:Inv X BN σ H s):X.s₀.heap.objs.size<=s.heap.objs.size:=qaA I.ok.above (qbF I.lt)
theorem Inv.nofs(I:Inv X BN σ H s){a:Addr}(h:s.heap.objs.size<=a):a∉X.fs:=fun hb=>by
 obtain⟨_,o,ho,_⟩:=I.ok.funs.mem hb;exact absurd (qat (qao ho) (qaA I.sz h)) (qaO _)
theorem Inv.cne(I:Inv X BN σ H s):∀x c,X.env.cells.lookup x=some c->c≠X.env.locals:=fun x c e z=>by
 obtain⟨v,o,ho,hd⟩:=I.cell x c e;obtain⟨m,⟨o',es,ep,ho',hd',_⟩,_⟩:=I.loc;rw[z,ho'] at ho;cases ho;rw[hd'] at hd;cases hd
theorem Inv.funs(I:Inv X BN σ H s):s.heap.FunFrames X.base X.outer:=by
 have all:∀(l:List Env),(∀b∈frs l,b∈X.fs)->X.s₀.heap.FunFrames X.base l->s.heap.FunFrames X.base l:=by
  intro l
  induction l with
  | nil=>intro _ _;trivial
  | cons env r ih =>
   intro hs hl;obtain⟨hk,⟨L,o,hf,hn,ho,hd⟩,hr⟩:=hl;have hL:L∈X.fs:=hs L (by unfold frs;rw[qbZ,hf];exact qaH);obtain⟨sl,e⟩:=I.base.slot L o ho (I.ok.frf L hL) hL fun z=>I.ok.exfs L z hL;exact⟨hk,⟨L,_,hf,hn,e,hd⟩,ih (fun b hb=>hs b (by unfold frs;rw[qbZ,hf];exact qak _ hb)) hr⟩
 exact all X.outer (fun _ hb=>hb) I.ok.funs
theorem Inv.stack(I:Inv X BN σ H s):s.heap.FunFrames X.base X.stack:=by
 rcases I.ok.stk with e|⟨e,hf⟩
 ·rw[e];exact I.funs
 ·rw[e];obtain⟨m,hn,_⟩:=I.loc;refine .cons (by rw[I.ok.kind];decide) hf hn ?_ I.funs;exact Heap.get?_none_of_le (qaA I.ok.bsz I.ok.above)
theorem Inv.stkSub(I:Inv X BN σ H s):∀b∈frs X.stack,b∈X.env.locals::X.fs:=fun b hb=>by
 rcases I.ok.stk with e|⟨e,hf⟩
 ·rw[e] at hb;exact qak _ hb
 ·rw[e] at hb;unfold frs at hb;rw[qbZ,hf] at hb;exact hb
theorem Inv.stkFree(I:Inv X BN σ H s):∀b∈frs X.stack,H b=none:=fun b hb=>by
 rcases qan.mp (I.stkSub b hb) with e|hb
 ·rw[e];exact I.free
 ·obtain⟨_,o,ho,_⟩:=I.ok.funs.mem hb;exact I.base.free b o ho (I.ok.frf b hb) fun z=>I.ok.exfs b z hb
theorem Inv.step{g':Array GenState}{t':Nat}{d':Drawn}{ch:List Addr}(I:Inv X BN σ H s)
  (hch:∀b∈ch,(b∈X.ex\/X.s₀.heap.objs.size<=b)/\b≠X.env.locals/\(∀x c,X.env.cells.lookup x=some c->c≠b)/\∀p∈X.pn++BN,p.1≠b)
  (keep:∀b o,b≠X.env.locals->b∉X.fs->b∉ch->s.heap.get? b=some o->H b=none->h'.get? b=some o)
  (slot:∀b o,b≠X.env.locals->b∈X.fs->b∉ch->s.heap.get? b=some o->H b=none->∃sl,h'.get? b=some { o with slots:=sl}) (free:∀b o,b∉ch->s.heap.get? b=some o->H b=none->H' b=none)
  (there:∀b o,b∉ch->s.heap.get? b=some o->∃o',h'.get? b=some o')
  (tups:∀b xs,H b=some (.tup xs)->H' b=some (.tup xs)) (frzs:∀b o u,H b=some (.frz o u)->H' b=some (.frz o u)) (tbls:∀b ps,H b=some (.tbl ps)->∃more,H' b=some (.tbl (ps++more)))
  (ns:∀m,s.heap.Ns X.env.locals m->h'.Ns X.env.locals m) (hok:HOk X.prog X.w H' h') (hg:AllBare g') :
  Inv X BN σ H' { s with heap:=h',gens:=g',drawn:=d',toks:=t'}:=by
 have neL:∀b o,X.s₀.heap.get? b=some o->b≠X.env.locals:=fun b o e=>qaJ (qat (qao e) I.ok.above);have neC:∀b o,X.s₀.heap.get? b=some o->b∉X.ex->b∉ch:=fun b o e hx hb=>by
  rcases (hch b hb).1 with z|z
  ·exact hx z
  ·exact absurd (qat (qao e) z) (qaO _)
 have cellK:∀x c,X.env.cells.lookup x=some c->∀v,s.heap.IsCell c v->h'.IsCell c v:=fun x c e v ⟨o,ho,hd⟩=>by
  have nch:c∉ch:=fun z=>(hch c z).2.2.1 x c e rfl;by_cases hc:c∈X.fs
  ·obtain⟨sl,q⟩:=slot c o (I.cne x c e) hc nch ho (I.freeC x c e);exact⟨_,q,hd⟩
  ·exact⟨o,keep c o (I.cne x c e) hc nch ho (I.freeC x c e),hd⟩
 refine⟨I.ok,I.os,hg,⟨fun b o e n hb hx=>?_,fun b o e n hb hx=>?_,fun b o e n hx=>?_,fun b o e hx=>?_,fun b xs e=>tups b xs (I.base.tups b xs e),fun b o xs e=>frzs b o xs (I.base.frzs b o xs e),fun b ps e=>?_⟩,?_,fun x c e=>?_,?_,fun x c e=>?_,fun p hp=>?_,hok,I.len⟩
 ·exact keep b o (neL b o e) hb (neC b o e hx) (I.base.keep b o e n hb hx) (I.base.free b o e n hx)
 ·obtain⟨sl,e1⟩:=I.base.slot b o e n hb hx;obtain⟨sl',e2⟩:=slot b _ (neL b o e) hb (neC b o e hx) e1 (I.base.free b o e n hx);exact⟨sl',e2⟩
 ·obtain⟨o',e1⟩:=I.base.there b o e hx;exact free b o' (neC b o e hx) e1 (I.base.free b o e n hx)
 ·obtain⟨o',e1⟩:=I.base.there b o e hx;exact there b o' (neC b o e hx) e1
 ·obtain⟨m1,e1⟩:=I.base.tbls b ps e;obtain⟨m2,e2⟩:=tbls b _ e1;exact⟨m1++m2,by rw[e2,Array.append_assoc]⟩
 ·obtain⟨m,hn,hl⟩:=I.loc;refine⟨m,ns m hn,fun i x v e1 e2 e3=>?_⟩;obtain⟨u,r,l⟩:=hl i x v e1 e2 e3;refine⟨u,r,?_⟩;rcases l with l|⟨k,c,e,z⟩
  ·exact .inl l
  ·exact .inr ⟨k,c,e,cellK x c e _ z⟩
 ·obtain⟨v,z⟩:=I.cell x c e;exact⟨v,cellK x c e v z⟩
 ·obtain⟨m,⟨o,_,_,ho,_⟩,_⟩:=I.loc;exact free _ o (fun z=>(hch _ z).2.1 rfl) ho I.free
 ·obtain⟨v,o,ho,hd⟩:=I.cell x c e;exact free c o (fun z=>(hch c z).2.2.1 x c e rfl) ho (I.freeC x c e)
 ·obtain⟨e,n,ne,nf,d⟩:=I.pin p hp;have nch:p.1∉ch:=fun z=>(hch p.1 z).2.2.2 p hp rfl;exact⟨keep p.1 p.2 ne nf nch e n,free p.1 p.2 nch e n,ne,nf,d⟩
theorem Inv.un{t':Nat}(I:Inv X BN σ H s)(u:Un X.fs [] H H' s.heap h')(hok:HOk X.prog X.w H' h'):Inv X BN σ H' { s with heap:=h',toks:=t'}:=by
 obtain⟨m,⟨o,es,ep,ho,r⟩,_⟩:=id I.loc;obtain⟨sl,hL⟩:=u.any ho I.free (by simp)
 exact I.step (g':=s.gens) (d':=s.drawn) (ch:=[]) (fun _ z=>nomatch z) (fun b o _ hb _ e n=>u.keep b o e n hb (by simp)) (fun b o _ hb _ e n=>u.slot b o e n hb (by simp)) (fun b o _ e n=>u.free b o e n (by simp)) (fun b o _ e=>u.there b o e (by simp)) u.tups u.frzs u.tbls (fun m' hm=>by
  obtain⟨o',es',ep',ho',r'⟩:=hm;rw[ho] at ho';cases ho'
  exact⟨_,es',ep',hL,r'⟩) hok I.bare
theorem Inv.call{g':Array GenState}{t':Nat}{d':Drawn}{ch:List Addr}(I:Inv X BN σ H s)(u:Un (frs X.stack) ch H H' s.heap h')(hok:HOk X.prog X.w H' h')(hg:AllBare g')
  (hch:∀b∈ch,(b∈X.ex\/X.s₀.heap.objs.size<=b)/\b≠X.env.locals/\(∀x c,X.env.cells.lookup x=some c->c≠b)/\∀p∈X.pn++BN,p.1≠b) :
  Inv X BN σ H' { s with heap:=h',gens:=g',drawn:=d',toks:=t'}:=by
 obtain⟨m,⟨o,es,ep,ho,r⟩,_⟩:=id I.loc;obtain⟨sl,hL⟩:=u.any ho I.free fun z=>(hch _ z).2.1 rfl
 exact I.step (ch:=ch) hch (fun b o hL hb hc e n=>u.keep b o e n (fun z=>(qan.mp (I.stkSub b z)).elim hL hb) hc) (fun b o _ _ hc e n=>u.any e n hc) (fun b o hc e n=>u.free b o e n hc) (fun b o hc e=>u.there b o e hc) u.tups u.frzs u.tbls (fun m' hm=>by
  obtain⟨o',es',ep',ho',r'⟩:=hm;rw[ho] at ho';cases ho'
  exact⟨_,es',ep',hL,r'⟩) hok hg
theorem Inv.turned{t':Nat}{it:Addr}(I:Inv X BN σ H s)(k:∀b o,b≠it->s.heap.get? b=some o->h'.get? b=some o)(hn:H it=none)(hL:it≠X.env.locals)
  (h1:it∈X.ex\/X.s₀.heap.objs.size<=it) (h2:∀x c,X.env.cells.lookup x=some c->c≠it) (h3:∀p∈X.pn++BN,p.1≠it):Inv X BN σ H { s with heap:=h',toks:=t'}:=by
 have nit:∀b u,H b=some u->b≠it:=fun b u e z=>by rw[z,hn] at e;cases e
 refine I.step (g':=s.gens) (d':=s.drawn) (ch:=[it]) (fun b hb=>?_) (fun b o _ _ hc e _=>k b o (fun z=>hc (by simp[z])) e) (fun b o _ _ hc e _=>⟨o.slots,k b o (fun z=>hc (by simp[z])) e⟩) (fun _ _ _ _ n=>n)
  (fun b o hc e=>⟨o,k b o (fun z=>hc (by simp[z])) e⟩) (fun _ _ e=>e) (fun _ _ _ e=>e) (fun b ps e=>⟨#[],by rw[e];simp⟩) (fun m hm=>?_) (fun b u e=>?_) I.bare
 ·have e:b=it:=by simpa using hb
  subst e;exact⟨h1,hL,h2,h3⟩
 ·obtain⟨o,es,ep,ho,r⟩:=hm;exact⟨o,es,ep,k _ o (Ne.symm hL) ho,r⟩
 ·refine (I.hok b u e).stay (fun c v hc q=>k c v ?_ q) (fun _ q=>q) fun _ _ q=>q;rcases hc with z|z
  ·rw[z];exact nit b u e
  ·exact nit c _ z
theorem Inv.tok(I:Inv X BN σ H s)(t:Nat):Inv X BN σ H { s with toks:=t}:=I.un (h':=s.heap) (t':=t) Un.refl I.hok
theorem Inv.kept(I:Inv X BN σ H s)(k:∀b u,s.heap.get? b=some u->h'.get? b=some u):Inv X BN σ H { s with heap:=h',toks:=t'}:=I.un (Un.kept k) (I.hok.kept k)
theorem Inv.laid{a:Addr}{o:HO}{t':Nat}(I:Inv X BN σ H s)(k:∀b u,s.heap.get? b=some u->h'.get? b=some u)(hp:s.heap.objs.size<=a)(new:ObjOk X.prog X.w (upd H a o) h' a o) :
  Inv X BN σ (upd H a o) { s with heap:=h',toks:=t'}:=I.un (Un.laid k hp (I.hok.fresh hp)) (I.hok.laid k hp new)
theorem Inv.write(I:Inv X BN σ H s)(mu:Mut (H x))(he:e=x\/H e=some (.own x))(k:∀b u,b≠e->s.heap.get? b=some u->h'.get? b=some u)(heo:∃u,h'.get? e=some u)
  (new:ObjOk X.prog X.w (upd H x o) h' x o):Inv X BN σ (upd H x o) { s with heap:=h',toks:=t'}:=I.un (Un.write mu he k heo) (I.hok.write mu he k heo new)
theorem Inv.pins_of(I:Inv X BN σ H s)(h:∀p∈pins',s.heap.get? p.1=some p.2/\H p.1=none/\p.1≠X.env.locals/\p.1∉X.fs/\∀v,p.2.data≠.cell v):Inv X pins' σ H s :=
 ⟨I.ok,I.os,I.bare,I.base,I.loc,I.cell,I.free,I.freeC,fun p hp=>(qav.mp hp).elim (fun z=>I.pin p (qay _ z)) (h p),I.hok,I.len⟩
theorem iT{N:List Str}(hN:N.Nodup){i j:Nat}{x:Str}(a:N[i]?=some x)(b:N[j]?=some x):i=j:=by
 obtain⟨h1,e1⟩:=qab.mp a;obtain⟨h2,e2⟩:=qab.mp b;exact (List.getElem_inj hN).mp (e1.trans e2.symm)
theorem rV{M:Model}{A:Around}{E:Value->Shared->Prop}{i:Nat}{x:Str}{v:V}{u:Value}{Q:Unit->Shared->Prop}(I:Inv X BN σ H s)(hN:X.N.Nodup)(hi:X.N[i]?=some x)(hx:Loc X.env.scope x)(r:aK v u)
  (h:∀s',Inv X BN (σ.set i (some v)) H s'->(∃a,Heap.SameBut a s.heap s'.heap/\(a=X.env.locals\/X.env.cells.lookup x=some a))->Q () s') (hf:X.fn x=true\/X.env.scope.names.lookup x=some .local:=by first | exact .inl rfl | exact .inr rfl | assumption):wpAny M A (storeName X.env x u) Q E s:=by
 obtain⟨m,hn,hl⟩:=id I.loc;have hcls:(X.env.scope.kind == .class || (X.env.scope.kind == .module && X.env.locals != X.env.globals))=false:=by rw[I.ok.kind];rfl
 have hiσ:i<σ.length:=by rw[I.len];exact (qab.mp hi).1
 have cne:=I.cne;have tracked:∀{a:Addr} {h':Heap},(∃o,s.heap.get? a=some o/\H a=none)->Heap.SameBut a s.heap h'->HOk X.prog X.w H h':=fun {a h'} ha hs b ob e=>by
  obtain⟨_,_,hfree⟩:=ha;refine (I.hok b ob e).stay (fun c w' hc q=>(hs.2 c ?_).trans q) (fun _ q=>q) fun _ _ q=>q;rintro rfl;rcases hc with rfl|hc
  ·rw[hfree] at e;cases e
  ·rw[hfree] at hc;cases hc
 rcases hx with hk|hk
 ·refine wpAny_storeName_local hk hn (fun h' hn' hs=>?_) hcls;obtain⟨oL,_,_,hoL,_⟩:=id hn;refine h _ ⟨I.ok,I.os,I.bare,⟨fun b o e n hb hx=>?_,fun b o e n hb hx=>?_,I.base.free,fun b o e hx=>?_,I.base.tups,I.base.frzs,I.base.tbls⟩,⟨_,hn',fun j y v' e1 e2 e3=>?_⟩,fun y c e=>?_,I.free,I.freeC,fun p hp=>?_,tracked ⟨oL,hoL,I.free⟩ hs,by simpa using I.len⟩ ⟨_,hs,.inl rfl⟩
  ·exact (hs.2 b (qaJ (qat (qao e) I.ok.above))).trans (I.base.keep b o e n hb hx)
  ·obtain⟨sl,e1⟩:=I.base.slot b o e n hb hx;exact⟨sl,(hs.2 b (qaJ (qat (qao e) I.ok.above))).trans e1⟩
  ·obtain⟨o',e1⟩:=I.base.there b o e hx;exact⟨o',(hs.2 b (qaJ (qat (qao e) I.ok.above))).trans e1⟩
  ·by_cases hj:j=i
   ·subst hj;rw[hi] at e1;cases e1;rw[qas hiσ] at e2;cases e2;exact⟨u,r,.inl ⟨hk,by simp⟩⟩
   ·rw[qad (Ne.symm hj)] at e2;obtain⟨u',r',q⟩:=hl j y v' e1 e2 e3;refine⟨u',r',?_⟩;rcases q with ⟨k,e⟩|⟨k,c,e,z⟩
    ·refine .inl ⟨k,?_⟩
     have:y≠x:=fun e=>hj (iT hN e1 (e▸hi))
     simp[this,e]
    ·exact .inr ⟨k,c,e,z.sameBut hs (cne y c e)⟩
  ·obtain⟨w',z⟩:=I.cell y c e;exact⟨w',z.sameBut hs (cne y c e)⟩
  ·obtain⟨e,n,ne,nf,d⟩:=I.pin p hp;exact⟨(hs.2 p.1 ne).trans e,n,ne,nf,d⟩
 ·have hfn:X.fn x=true:=by
   rcases hf with z|z
   ·exact z
   ·rw[z] at hk;cases hk
  obtain⟨c,hc⟩:=I.ok.has x (.inl hk);obtain⟨w',z⟩:=I.cell x c hc;refine wpAny_storeName_cell I.ok.kind hk hc z (fun h' hc' hs=>?_);obtain⟨oc,hoc,hocd⟩:=id z;refine h { s with heap:=h'} ⟨I.ok,I.os,I.bare,⟨fun b o e n hb hx=>?_,fun b o e n hb hx=>?_,I.base.free,fun b o e hx=>?_,I.base.tups,I.base.frzs,I.base.tbls⟩,⟨m,hn.sameBut hs (Ne.symm (cne x c hc)),fun j y v' e1 e2 e3=>?_⟩,fun y c' e=>?_,I.free,I.freeC,fun p hp=>?_,tracked ⟨oc,hoc,I.freeC x c hc⟩ hs,by simpa using I.len⟩ ⟨c,hs,.inr hc⟩
  ·exact (hs.2 b (qaJ (qat (qao e) (I.ok.cab x c hfn hc)))).trans (I.base.keep b o e n hb hx)
  ·obtain⟨sl,e1⟩:=I.base.slot b o e n hb hx;exact⟨sl,(hs.2 b (qaJ (qat (qao e) (I.ok.cab x c hfn hc)))).trans e1⟩
  ·obtain⟨o',e1⟩:=I.base.there b o e hx;exact⟨o',(hs.2 b (qaJ (qat (qao e) (I.ok.cab x c hfn hc)))).trans e1⟩
  ·by_cases hj:j=i
   ·subst hj;rw[hi] at e1;cases e1;rw[qas hiσ] at e2;cases e2;exact⟨u,r,.inr ⟨.inl hk,c,hc,hc'⟩⟩
   ·rw[qad (Ne.symm hj)] at e2;obtain⟨u',r',q⟩:=hl j y v' e1 e2 e3;refine⟨u',r',?_⟩;rcases q with q|⟨k,c',e,z'⟩
    ·exact .inl q
    ·refine .inr ⟨k,c',e,z'.sameBut hs ?_⟩;rintro rfl;exact hj (iT hN e1 (I.ok.inj _ _ _ e hc▸hi))
  ·by_cases hcc:c'=c
   ·subst hcc;exact⟨_,hc'⟩
   ·obtain⟨w2,z2⟩:=I.cell y c' e;exact⟨w2,z2.sameBut hs hcc⟩
  ·obtain⟨e,n,ne,nf,d⟩:=I.pin p hp;refine⟨(hs.2 p.1 ?_).trans e,n,ne,nf,d⟩;intro q;rw[q,hoc] at e;have q':oc=p.2:=Option.some.inj e;exact d w' (by rw[<-q'];exact hocd)
theorem i4(I:Inv X BN σ H s)(hN:X.N.Nodup)(hi:X.N[i]?=some x)(hx:Loc X.env.scope x)(r:aK v u)
  (h:∀s',Inv X BN (σ.set i (some v)) H s'->Q () s') (hf:X.fn x=true\/X.env.scope.names.lookup x=some .local:=by first | exact .inl rfl | exact .inr rfl | assumption):wpAny M A (storeName X.env x u) Q E s :=
 rV I hN hi hx r (fun s' I' _=>h s' I') hf
theorem Inv.call'(I:Inv X BN σ H s)(ho:s'.os=s.os)(u:Un (frs X.stack) ch H H' s.heap s'.heap)(hok:HOk X.prog X.w H' s'.heap)(hg:AllBare s'.gens)
  (hch:∀b∈ch,(b∈X.ex\/X.s₀.heap.objs.size<=b)/\b≠X.env.locals/\(∀x c,X.env.cells.lookup x=some c->c≠b)/\∀p∈X.pn++BN,p.1≠b):Inv X BN σ H' s':=by
 obtain⟨h',g',d',t',o'⟩:=s';have e:o'=s.os:=ho;subst e;exact I.call (g':=g') (t':=t') (d':=d') u hok hg hch
end
abbrev XK:=Value->Option Addr->Hp->Prop
abbrev St:=List (Option V)
abbrev VK:=V->Hp->Prop
abbrev TE:=St->Hp->VK->Prop
abbrev TT:=St->Hp->(Bool->Hp->Prop)->Prop
abbrev TA:=St->Hp->(List V->Hp->Prop)->Prop
structure Ends where
 nx:St->Hp->Prop
 rt:VK
 bk:St->Hp->Prop:=fun _ _=>False
 ct:St->Hp->Prop:=fun _ _=>False
abbrev TS:=Ends->St->Hp->Prop
inductive EP (X:Cx) (BN:List (Addr × Obj)) (σ:St) (Q:VK) (u:Value) (s':Shared):Prop
 | mk (v:V) (H':Hp) (i:Inv X BN σ H' s') (r:aK v u) (q:Q v H'):EP X BN σ Q u s'
inductive TP (X:Cx) (BN:List (Addr × Obj)) (σ:St) (Q:Bool->Hp->Prop) (b:Bool) (s':Shared):Prop
 | mk (H':Hp) (i:Inv X BN σ H' s') (q:Q b H'):TP X BN σ Q b s'
inductive AP (X:Cx) (BN:List (Addr × Obj)) (σ:St) (Q:List V->Hp->Prop) (us:List Value) (s':Shared):Prop
 | mk (vs:List V) (H':Hp) (i:Inv X BN σ H' s') (r:ar vs us) (q:Q vs H'):AP X BN σ Q us s'
inductive SN (X:Cx) (BN:List (Addr × Obj)) (Q:St->Hp->Prop) (s':Shared):Prop
 | mk (σ':St) (H':Hp) (i:Inv X BN σ' H' s') (q:Q σ' H'):SN X BN Q s'
inductive SR (X:Cx) (BN:List (Addr × Obj)) (Q:VK) (u:Value) (s':Shared):Prop
 | mk (v:V) (σ':St) (H':Hp) (i:Inv X BN σ' H' s') (r:aK v u) (q:Q v H'):SR X BN Q u s'
def SP(X:Cx)(BN:List (Addr × Obj))(D:Ends)(f:Flow)(s':Shared):Prop :=
 match f with
 | .next=>SN X BN D.nx s'
 | .brk=>SN X BN D.bk s'
 | .cont=>SN X BN D.ct s'
 | .ret u=>SR X BN D.rt u s'
def PE(X:Cx)(e:Expr)(t:TE):Prop :=
 ∀(BN:List (Addr × Obj)) (s:Shared) (σ:St) (H:Hp) (Q:VK),Inv X BN σ H s->t σ H Q->wpAny (model X.prog X.w) X.A (eval e X.env) (EP X BN σ Q) X.xe s
def PT(X:Cx)(e:Expr)(t:TT):Prop :=
 ∀(BN:List (Addr × Obj)) (s:Shared) (σ:St) (H:Hp) (Q:Bool->Hp->Prop),Inv X BN σ H s->t σ H Q->wpAny (model X.prog X.w) X.A (isTrue e X.env (eval e X.env)) (TP X BN σ Q) X.xe s
def PW(X:Cx)(e:Expr)(t:TT):Prop :=
 ∀(whole:Sem Value) (BN:List (Addr × Obj)) (s:Shared) (σ:St) (H:Hp) (Q:Bool->Hp->Prop),Inv X BN σ H s->t σ H Q->wpAny (model X.prog X.w) X.A (isTrue e X.env whole) (TP X BN σ Q) X.xe s
theorem PW.pt(h:PW X e t):PT X e t:=h _
def PA(X:Cx)(es:List Expr)(t:TA):Prop :=
 ∀(pos:Pos) (BN:List (Addr × Obj)) (s:Shared) (σ:St) (H:Hp) (Q:List V->Hp->Prop),Inv X BN σ H s->t σ H Q->wpAny (model X.prog X.w) X.A (spliced (backTo pos (starEach es X.env))) (AP X BN σ Q) X.xe s
def PS(X:Cx)(st:Stmt)(t:TS):Prop :=
 ∀(BN:List (Addr × Obj)) (s:Shared) (σ:St) (H:Hp) (D:Ends),Inv X BN σ H s->t D σ H->wpAny (model X.prog X.w) X.A (exec st X.env) (SP X BN D) X.xe s
def PSs(X:Cx)(st:List Stmt)(t:TS):Prop :=
 ∀(BN:List (Addr × Obj)) (s:Shared) (σ:St) (H:Hp) (D:Ends),Inv X BN σ H s->t D σ H->wpAny (model X.prog X.w) X.A (execs st X.env) (SP X BN D) X.xe s
theorem thn(h:wpAny M A t Q E s)(hQ:∀a s,Q a s->Q' a s):wpAny M A t Q' E s:=wpAny_mono h hQ fun _ _ x=>x
section
variable {X:Cx}
def tVar(i:Nat):TE:=fun σ H Q=>∃v,σ[i]?=some (some v)/\Q v H
def tC(v:V):TE:=fun _ H Q=>Q v H
theorem rg{i:Nat}{x:Str}{pos:Pos}(hN:X.N[i]?=some x)(hv:Vis X.env.scope x)(hd:(x == ("__debug__":Str))=false:=by decide)(hcd:(x == ("__classdict__":Str))=false:=by decide):PE X (.Name x pos) (tVar i):=by
 intro BN s σ H Q I h;obtain⟨v,e,h⟩:=h;obtain⟨m,hn,hl⟩:=I.loc;obtain⟨u,r,l⟩:=hl i x v hN e hv;have fin:EP X BN σ Q u s:=⟨v,H,I,r,h⟩;rcases l with ⟨hk,hm⟩|⟨hk,c,hc,hcell⟩
 ·exact wpAny_Name (wpAny_loadName_local I.ok.kind hk hn hm fin) hd
 ·rcases hk with hk|hk
  ·exact wpAny_Name (wpAny_loadName_cell I.ok.kind hk hc hcell fin) hd
  ·exact wpAny_Name (wpAny_loadName_free I.ok.kind hk hc hcell fin hcd) hd
theorem pe_int{i j pos}:PE X (.Constant (.int i) j pos) (tC (.int i)):=fun _ _ _ H _ I h=>wpAny_Constant_int ⟨.int i,H,I.tok _,⟨_,rfl⟩,h⟩
theorem pe_bl{b j pos}:PE X (.Constant (.bool b) j pos) (tC (.bl b)):=fun _ _ _ H _ I h=>Constant_bool ⟨.bl b,H,I,rfl,h⟩
theorem pe_non{j pos}:PE X (.Constant .none j pos) (tC .non):=fun _ _ _ H _ I h=>Constant_none ⟨.non,H,I,rfl,h⟩
theorem pe_str{x j pos}:PE X (.Constant (.str x) j pos) (tC (.str x)):=fun _ _ _ H _ I h=>Calls.Constant_str ⟨.str x,H,I.tok _,⟨_,rfl⟩,h⟩
def Gl(X:Cx)(x:Str):Prop:=X.env.kindOf x=some .globalImplicit
theorem kN{E:Value->Shared->Prop}{BN:List (Addr × Obj)}{s:Shared}{σ:St}{H:Hp}{x:Str}{u:Value}{pos:Pos}{Q:Value->Shared->Prop}(I:Inv X BN σ H s)(hg:Gl X x)(hm:X.mg x=some u)(h:Q u s)
  (hd:(x == ("__debug__":Str))=false:=by decide):wpAny (model X.prog X.w) X.A (eval (.Name x pos) X.env) Q E s :=
 Calls.Name_function_global I.ok.kind hg (Calls.loadGlobal_global (by rw[I.ok.glob];exact I.mod.glob.keeps I.bk) hm h) hd
theorem fB{E:Value->Shared->Prop}{BN:List (Addr × Obj)}{s:Shared}{σ:St}{H:Hp}{x:Str}{u:Value}{pos:Pos}{Q:Value->Shared->Prop}(I:Inv X BN σ H s)(hg:Gl X x)(hm:X.mg x=none)(hv:bootBuiltins x=some u)(h:Q u s)
  (hn:x≠"__name__":=by decide) (hd:(x == ("__debug__":Str))=false:=by decide):wpAny (model X.prog X.w) X.A (eval (.Name x pos) X.env) Q E s:=by
 obtain⟨mb,h1,h2⟩:=I.mod.blt;exact Calls.Name_function_global I.ok.kind hg (Calls.loadGlobal_builtin (by rw[I.ok.glob];exact I.mod.glob.keeps I.bk) hm (by rw[I.ok.blt];exact h1.keeps I.bk) ((h2 x hn).trans hv) h) hd
theorem pi(hg:Gl X x)(hm:X.mg x=some u)(r:aK v u)(hd:(x == ("__debug__":Str))=false:=by decide):PE X (.Name x pos) (tC v) :=
 fun _ _ _ H _ I h=>kN I hg hm ⟨v,H,I,r,h⟩ hd
theorem pP{x:Str}{v:V}{u:Value}{pos:Pos}(hg:Gl X x)(hm:X.mg x=none)(hv:bootBuiltins x=some u)(r:aK v u)(hn:x≠"__name__":=by decide)(hd:(x == ("__debug__":Str))=false:=by decide):PE X (.Name x pos) (tC v) :=
 fun _ _ _ H _ I h=>fB I hg hm hv ⟨v,H,I,r,h⟩ hn hd
variable {a b:Expr} {ta tb:TE} {pos:Pos}
def tB(t:TE):TT:=fun σ H Q=>t σ H fun x H1=>∃c,x=.bl c/\Q c H1
theorem pt_val(h:PE X e t)(he:∀whole,isTrue e X.env whole=(do let v <-whole;standAt e.pos;holding [v] (truthy v)):=by intro _;rfl):PT X e (tB t):=by
 intro BN s σ H Q I hw;refine isTrue_plain (thn (h BN s σ H _ I hw) fun v s1 ⟨x,H1,I1,r1,q1⟩=>?_) (he _);obtain⟨d,rfl,q⟩:=q1;cases r1;exact wpAny_truthy_bool ⟨H1,I1,q⟩
variable {tA tB':TT} {rest:List Expr}
def tAnd(t u:TT):TT:=fun σ H Q=>t σ H fun c H1=>if c=true then u σ H1 Q else Q false H1
def tOr(t u:TT):TT:=fun σ H Q=>t σ H fun c H1=>if c=true then Q true H1 else u σ H1 Q
def tNot(t:TT):TT:=fun σ H Q=>t σ H fun c H1=>Q (!c) H1
theorem pw_and1(ha:PT X a tA):PW X (.BoolOp .And [a] pos) tA:=by
 intro wh BN s σ H Q I h;refine isTrue_and (thn (ha BN s σ H Q I h) fun c s1 e=>?_)
 cases c with
 | true=>exact isTrue_and_nil e
 | false=>exact e
theorem pw_or1(ha:PT X a tA):PW X (.BoolOp .Or [a] pos) tA:=by
 intro wh BN s σ H Q I h;refine isTrue_or (thn (ha BN s σ H Q I h) fun c s1 e=>?_)
 cases c with
 | false=>exact isTrue_or_nil e
 | true=>exact e
theorem pw_and(ha:PT X a tA)(hb:PW X (.BoolOp .And (b::rest) pos) tB'):PW X (.BoolOp .And (a::b::rest) pos) (tAnd tA tB'):=by
 intro wh BN s σ H Q I h;refine isTrue_and (thn (ha BN s σ H _ I h) fun c s1 ⟨H1,I1,q1⟩=>?_)
 cases c with
 | true=>exact hb wh BN s1 σ H1 Q I1 q1
 | false=>exact⟨H1,I1,q1⟩
theorem pw_or(ha:PT X a tA)(hb:PW X (.BoolOp .Or (b::rest) pos) tB'):PW X (.BoolOp .Or (a::b::rest) pos) (tOr tA tB'):=by
 intro wh BN s σ H Q I h;refine isTrue_or (thn (ha BN s σ H _ I h) fun c s1 ⟨H1,I1,q1⟩=>?_)
 cases c with
 | true=>exact⟨H1,I1,q1⟩
 | false=>exact hb wh BN s1 σ H1 Q I1 q1
theorem pt_not(ha:PT X a tA):PT X (.UnaryOp .Not a pos) (tNot tA):=by
 intro BN s σ H Q I h;exact isTrue_not (thn (ha BN s σ H (fun c H1=>Q (!c) H1) I h) fun _ _ ⟨H1,I1,q⟩=>⟨H1,I1,q⟩)
def tAndV(ta tb:TE):TE:=fun σ H Q=>ta σ H fun x H1=>∃c,x=.bl c/\if c=true then tb σ H1 Q else Q (.bl false) H1
def tNotV(ta:TE):TE:=fun σ H Q=>ta σ H fun x H1=>∃c,x=.bl c/\Q (.bl (!c)) H1
theorem pe_one{op}(h:PE X a t):PE X (.BoolOp op [a] pos) t:=fun BN s σ H Q I hw=>BoolOp_one (h BN s σ H Q I hw)
theorem pe_and(ha:PE X a ta)(hb:PE X (.BoolOp .And (b::rest) pos) tb):PE X (.BoolOp .And (a::b::rest) pos) (tAndV ta tb):=by
 intro BN s σ H Q I h;refine BoolOp_and (thn (ha BN s σ H _ I h) fun v s1 ⟨x,H1,I1,r1,q1⟩=>?_);obtain⟨c,rfl,q1⟩:=q1;cases r1;refine wpAny_truthy_bool ?_
 cases c with
 | true=>exact hb BN s1 σ H1 Q I1 q1
 | false=>exact⟨.bl false,H1,I1,rfl,q1⟩
theorem pe_not(ha:PE X a ta):PE X (.UnaryOp .Not a pos) (tNotV ta):=by
 intro BN s σ H Q I h;refine UnaryOp_ (thn (ha BN s σ H _ I h) fun v s1 ⟨x,H1,I1,r1,q1⟩=>?_);obtain⟨c,rfl,q1⟩:=q1;cases r1;exact not_of (wpAny_truthy_bool ⟨.bl (!c),H1,I1,rfl,q1⟩)
end
def SqL(K:qaa)(H:Hp)(a:Addr)(xs:List V):Prop :=
 Rd H a (.lst xs) \/
  ∃(o:Obj) (its:Array Value) (n:Nat),K.lookup a=some o/\o.cls=.type "list"/\o.dict=none/\o.data=.seq its n/\its.size<=sizeLine/\ar xs its.toList
def SqT(K:qaa)(H:Hp)(a:Addr)(xs:List V):Prop :=
 Rd H a (.tup xs) \/
  ∃(o:Obj) (its:Array Value) (n:Nat),K.lookup a=some o/\o.cls=.type "tuple"/\(o.data=.seq its n/\o.dict=none)/\its.size<=sizeLine/\ar xs its.toList
def absV:Value->Option V
 | .none=>some .non
 | .bool b=>some (.bl b)
 | .int i _=>some (.int i)
 | .str x _=>some (.str x)
 | .bytes b _=>some (.byt b)
 | .float b _=>some (.flt b)
 | .ref a=>some (.ref a)
 | .type n=>some (.ty n)
 | _=>none
theorem aK.abs(r:aK x u):absV u=some x:=by
 cases x with
 | non=>cases r;rfl
 | bl _=>cases r;rfl
 | int _=>obtain⟨t,rfl⟩:=r;rfl
 | str _=>obtain⟨t,rfl⟩:=r;rfl
 | byt _=>obtain⟨t,rfl⟩:=r;rfl
 | flt _=>obtain⟨t,rfl⟩:=r;rfl
 | ref _=>cases r;rfl
 | ty _=>cases r;rfl
theorem aK.inj(r:aK x u)(q:aK y u):x=y:=Option.some.inj (r.abs.symm.trans q.abs)
theorem ar.inj(r:ar xs us)(q:ar ys us):xs=ys:=by
 induction r generalizing ys with
 | nil=>cases q;rfl
 | cons r t ih=>cases q with | cons r' t'=>rw[r.inj r',ih t']
section
variable {X:Cx} {BN:List (Addr × Obj)} {σ:St} {H:Hp} {s:Shared} {a:Addr} {xs ys:List V}
theorem SqL.of{K:qaa}(h:H a=some (.lst xs)):SqL K H a xs:=.inl (.inl h)
theorem SqT.of{K:qaa}(h:H a=some (.tup xs)):SqT K H a xs:=.inl (.inl h)
theorem Inv.list(I:Inv X BN σ H s)(h:SqL X.K H a xs):∃its:List Value,ar xs its/\PlainL s.heap a its.toArray/\xs.length<=sizeLine:=by
 rcases h with h|⟨o,its,n,hk,hc,hd,hs,hz,r⟩
 ·obtain⟨z,its,n,r,e⟩:=h.ok I.hok;exact⟨its,r,⟨_,n,e,rfl,rfl,rfl⟩,z⟩
 ·refine⟨its.toList,r,⟨o,n,I.kIn a o hk,hc,hd,by simpa using hs⟩,?_⟩;have e:=r.length;simp only[qaR] at e;omega
theorem Inv.tupleN(I:Inv X BN σ H s)(h:SqT X.K H a xs):∃its:List Value,ar xs its/\eA s.heap a its.toArray/\xs.length<=sizeLine:=by
 rcases h with h|⟨o,its,n,hk,hc,hs,hz,r⟩
 ·obtain⟨z,its,r,p⟩:=h.ok I.hok;exact⟨its,r,p,z⟩
 ·refine⟨its.toList,r,⟨o,I.kIn a o hk,hc,⟨n,by simpa using hs.1⟩,hs.2⟩,?_⟩;have e:=r.length;simp only[qaR] at e;omega
theorem Inv.tuple(I:Inv X BN σ H s)(h:SqT X.K H a xs):∃its:List Value,ar xs its/\IsTup s.heap a its.toArray/\xs.length<=sizeLine :=
 let ⟨its,r,p,z⟩:=I.tupleN h
 ⟨its,r,p.tup,z⟩
theorem Inv.list_inj(I:Inv X BN σ H s)(h:SqL X.K H a xs)(h':SqL X.K H a ys):xs=ys:=by
 obtain⟨its,r,⟨o,n,e,_,_,d⟩,_⟩:=I.list h;obtain⟨its',r',⟨o',n',e',_,_,d'⟩,_⟩:=I.list h';rw[e] at e';cases e';rw[d] at d';injection d' with d1 _
 have:its=its':=by simpa using congrArg Array.toList d1
 subst this;exact r.inj r'
theorem Inv.tuple_inj(I:Inv X BN σ H s)(h:SqT X.K H a xs)(h':SqT X.K H a ys):xs=ys:=by
 obtain⟨its,r,⟨o,e,_,n,d⟩,_⟩:=I.tuple h;obtain⟨its',r',⟨o',e',_,n',d'⟩,_⟩:=I.tuple h';rw[e] at e';cases e';rw[d] at d';injection d' with d1 _
 have:its=its':=by simpa using congrArg Array.toList d1
 subst this;exact r.inj r'
end
section
variable {X:Cx} {BN:List (Addr × Obj)} {σ:St} {H:Hp} {s:Shared} {E:Value→Shared→Prop}
end
section
variable {X:Cx} {st:Stmt} {rest:List Stmt} {t u:TS} {e:Expr} {te:TE} {pos:Pos}
def tNext:TS:=fun D σ H=>D.nx σ H
def tSeq(t u:TS):TS:=fun D σ H=>t { D with nx:=u D} σ H
theorem pss_nil:PSs X [] tNext:=fun _ _ σ H _ I h=>wpAny_execs_nil ⟨σ,H,I,h⟩
theorem t9(h1:PS X st t)(h2:PSs X rest u):PSs X (st::rest) (tSeq t u):=by
 intro BN s σ H D I h;refine wpAny_execs_cons (thn (h1 BN s σ H { D with nx:=u D} I h) fun f s1 q=>?_)
 cases f with
 | next =>
  obtain⟨σ',H',I',q⟩:=q;exact h2 BN s1 σ' H' D I' q
 | ret v=>exact q
 | brk=>exact q
 | cont=>exact q
theorem o3(h1:PS X st t):PSs X [st] t:=by
 intro BN s σ H D I h;refine wpAny_execs_cons (thn (h1 BN s σ H D I h) fun f s1 q=>?_)
 cases f with
 | next=>exact wpAny_execs_nil q
 | ret v=>exact q
 | brk=>exact q
 | cont=>exact q
theorem Inv.quiet{BN:List (Addr × Obj)}{σ:St}{H:Hp}{s:Shared}(I:Inv X BN σ H s):interactive X.env=false:=by simp[interactive,I.ok.kind]
def tDrop(te:TE):TS:=fun D σ H=>te σ H fun _ H1=>D.nx σ H1
theorem ps_expr(he:PE X e te)(hs:swapsWith e none pos.line X.env=pure false:=by rfl):PS X (.Expr e pos) (tDrop te):=by
 intro BN s σ H D I h;exact wpAny_Expr_any (thn (he BN s σ H _ I h) fun v s1 ⟨x,H1,I1,r1,q1⟩=>⟨σ,H1,I1,q1⟩) I.quiet hs
def tRet(te:TE):TS:=fun D σ H=>te σ H D.rt
theorem ps_ret(he:PE X e te):PS X (.Return (some e) pos) (tRet te):=by
 intro BN s σ H D I h;exact wpAny_Return_some (thn (he BN s σ H _ I h) fun v s1 ⟨x,H1,I1,r1,q1⟩=>⟨x,σ,H1,I1,r1,q1⟩)
def tIfS(c:TT)(t u:TS):TS:=fun D σ H=>c σ H fun b H1=>if b=true then t D σ H1 else u D σ H1
theorem ps_if(hc:PT X c tc)(ha:PSs X a t)(hb:PSs X b u):PS X (.If c a b pos) (tIfS tc t u):=by
 intro BN s σ H D I h;refine wpAny_If (thn (hc BN s σ H _ I h) fun d s1 ⟨H1,I1,q1⟩=>?_)
 cases d with
 | true=>exact ha BN s1 σ H1 D I1 q1
 | false=>exact hb BN s1 σ H1 D I1 q1
end
abbrev TG:=V->St->Hp->(St->Hp->Prop)->Prop
abbrev TGs:=List V->St->Hp->(St->Hp->Prop)->Prop
def PG(X:Cx)(target:Expr)(t:TG):Prop :=
 ∀(BN:List (Addr × Obj)) (s:Shared) (σ:St) (H:Hp) (v:V) (u:Value) (Q:St->Hp->Prop),Inv X BN σ H s->aK v u->t v σ H Q ->
  wpAny (model X.prog X.w) X.A (assign target X.env u) (fun _ s'=>SN X BN Q s') X.xe s
def PGs(X:Cx)(ts:List Expr)(t:TGs):Prop :=
 ∀(BN:List (Addr × Obj)) (s:Shared) (σ:St) (H:Hp) (vs:List V) (us:List Value) (Q:St->Hp->Prop),Inv X BN σ H s->ar vs us->t vs σ H Q ->
  wpAny (model X.prog X.w) X.A (assignInOrder ((assignEach ts X.env).map (·.2)) us) (fun _ s'=>SN X BN Q s') X.xe s
abbrev TSet:=V->V->V->Hp->(Hp->Prop)->Prop
inductive SE (X:Cx) (BN:List (Addr × Obj)) (σ:St) (Q:Hp->Prop) (s':Shared):Prop
 | mk (H':Hp) (i:Inv X BN σ H' s') (q:Q H'):SE X BN σ Q s'
def PSet(X:Cx)(t:TSet):Prop :=
 ∀(BN:List (Addr × Obj)) (s:Shared) (σ:St) (H:Hp) (o i v:V) (ov iv u:Value) (Q:Hp->Prop),Inv X BN σ H s->aK o ov->aK i iv->aK v u->t o i v H Q ->
  wpAny (model X.prog X.w) X.A (setItem ov iv u) (fun _ s'=>SE X BN σ Q s') X.xe s
section
variable {X:Cx} {pos:Pos}
def gName(i:Nat):TG:=fun v σ H Q=>Q (σ.set i (some v)) H
theorem pr(hN:X.N.Nodup)(hi:X.N[i]?=some x)(hx:Loc X.env.scope x)(hf:X.fn x=true\/X.env.scope.names.lookup x=some .local:=by first | exact .inl rfl | exact .inr rfl | assumption):PG X (.Name x pos) (gName i):=by
 intro BN s σ H v u Q I r h;exact wpAny_assign_Name (i4 I hN hi hx r (fun s' I'=>⟨_,H,I',h⟩) hf)
def gNil:TGs:=fun vs σ H Q=>vs=[]/\Q σ H
def gCons(t:TG)(u:TGs):TGs:=fun vs σ H Q=>∃v r,vs=v::r/\t v σ H fun σ' H'=>u r σ' H' Q
theorem pgs_nil:PGs X [] gNil:=by
 intro BN s σ H vs us Q I r h;obtain⟨e,h⟩:=h;subst e;cases r;exact assignInOrder_nil ⟨σ,H,I,h⟩
theorem ui(h1:PG X e t)(h2:PGs X es u)
  (hs:(assignEach (e::es) X.env).map (·.2)=assign e X.env::(assignEach es X.env).map (·.2):=by rfl):PGs X (e::es) (gCons t u):=by
 intro BN s σ H vs us Q I r h;obtain⟨v,vr,e1,h⟩:=h;subst e1
 cases r with
 | cons r rr =>
  rw[hs];refine assignInOrder_cons (thn (h1 BN s σ H _ _ _ I r h) fun _ s1 ⟨σ1,H1,I1,q1⟩=>?_);exact h2 BN s1 σ1 H1 _ _ Q I1 rr q1
def gTup(K:qaa)(n:Nat)(t:TGs):TG:=fun v σ H Q=>∃a xs,v=.ref a/\SqT K H a xs/\xs.length=n/\t xs σ H Q
theorem pg_tup{es:List Expr}{k:Nat}{t:TGs}{n:Nat}(hc:X.calm=true)(h:PGs X es t)
  (hn:(assignEach es X.env).length=n:=by rfl) (hst:(assignEach es X.env).findIdx? (·.1)=none:=by rfl):PG X (.Tuple es k pos) (gTup X.K n t):=by
 intro BN s σ H v u Q I r hw;obtain⟨a,xs,e1,hq,hl,hw⟩:=hw;subst e1;cases r;obtain⟨its,rv,ht,hz⟩:=I.tuple hq;refine assign_Tuple_tuple (I.ok.hd hc) ht (by simp[hn,<-hl,rv.length]) hst fun h' hx=>?_;have I1:Inv X BN σ H { s with heap:=h'}:=I.kept (t':=s.toks) fun b o e=>hx b o (qaJ (qao e)) e;exact h BN _ σ H xs _ Q I1 (by simpa using rv) hw
def gSub(to ti:TE)(t:TSet):TG:=fun v σ H Q=>to σ H fun o H1=>ti σ H1 fun i H2=>t o i v H2 fun H3=>Q σ H3
theorem pg_sub(ho:PE X o to)(hi:PE X i ti)(hs:PSet X t)
  (ha:∀v,assign (.Subscript o i pos) X.env v=(do
   let ov <-holding [v] (eval o X.env)
   let iv <-holding [v,ov] (eval i X.env)
   standAt pos
   holding [v,ov,iv] (setItem ov iv v)
   release [v,ov,iv] []):=by intro _;rfl):PG X (.Subscript o i pos) (gSub to ti t):=by
 intro BN s σ H v u Q I r h;rw[ha];refine qah (wpAny_holding (thn (ho BN s σ H _ I h) fun ov s1 ⟨x,H1,I1,r1,q1⟩=>?_));refine qah (wpAny_holding (thn (hi BN s1 σ H1 _ I1 q1) fun iv s2 ⟨y,H2,I2,r2,q2⟩=>?_));refine qah (wpAny_standAt (qah (wpAny_holding (thn (hs BN s2 σ H2 x y v ov iv u _ I2 r1 r2 r q2) fun _ s3 ⟨H3,I3,q3⟩=>?_))));exact wpAny_release ⟨σ,H3,I3,q3⟩
def tAsg(te:TE)(g:TG):TS:=fun D σ H=>te σ H fun x H1=>g x σ H1 D.nx
theorem ps_asg(he:PE X e te)(hg:PG X tg g)(hs:swapsWithSole [tg] e pos.line X.env=pure false:=by rfl)(hw:swappedStores [tg] e X.env=pure none:=by rfl)
  (h1:(assignEach [tg] X.env).map (·.2)=[assign tg X.env]:=by rfl):PS X (.Assign [tg] e pos) (tAsg te g):=by
 intro BN s σ H D I h;refine wpAny_Assign_stores (thn (he BN s σ H _ I h) fun v s1 ⟨x,H1,I1,r1,q1⟩=>?_) hs hw;rw[h1];exact thn (hg BN s1 σ H1 x v _ I1 r1 q1) fun _ s2 q=>q
theorem sg(hN:X.N.Nodup)(hi:X.N[i]?=some x)(hx:Loc X.env.scope x)(he:PE X e te)(hs:swapsWith e (some (.Name x pos')) pos.line X.env=pure false:=by rfl)(hf:X.fn x=true\/X.env.scope.names.lookup x=some .local:=by first | exact .inl rfl | exact .inr rfl | assumption) :
  PS X (.Assign [.Name x pos'] e pos) (tAsg te (gName i)):=by
 intro BN s σ H D I h;refine wpAny_Assign_Name (thn (he BN s σ H _ I h) fun v s1 ⟨y,H1,I1,r1,q1⟩=>?_) hs;exact i4 I1 hN hi hx r1 (fun s2 I2=>⟨_,H1,I2,q1⟩) hf
end
section
variable {X:Cx} {pos:Pos}
def tWhile(c:TT)(tb:TS):TS:=fun D σ H=>∃W:Nat->St->Hp->Prop,(∃m,W m σ H)/\∀m σ H,W m σ H ->
 c σ H fun b H1=>if b=true then ∃N:St->Hp->Prop,(∀σ' H',N σ' H'->∃m',m'<m/\W m' σ' H')/\tb { D with nx:=N,ct:=N,bk:=D.nx} σ H1 else D.nx σ H1
theorem tj(hp:PassesOwn (model X.prog X.w) X.A X.env X.xe)(hc:PT X c tc)(hb:PSs X body tb):PS X (.While c body [] pos) (tWhile tc tb):=by
 intro BN s σ H D I h;obtain⟨W,⟨m0,w0⟩,turn⟩:=h;refine wpAny_While (codeAny_whileLoop (fun n s'=>∃σ' H',Inv X BN σ' H' s'/\W n σ' H') ?_ m0 ⟨σ,H,I,w0⟩);rintro n s1 ⟨σ1,H1,I1,w1⟩;refine wpAny_passesOwn hp (thn (hc BN s1 σ1 H1 _ I1 (turn n σ1 H1 w1)) fun b s2 ⟨H2,I2,q2⟩=>?_)
 cases b with
 | true =>
  obtain⟨N,hN,q2⟩:=q2;rw[qaf rfl];refine wpAny_passesOwn hp (thn (hb BN s2 σ1 H2 _ I2 q2) fun f s3 q3=>?_)
  cases f with
  | next =>
   obtain⟨σ3,H3,I3,n3⟩:=q3;obtain⟨m',hm,w3⟩:=hN σ3 H3 n3;exact⟨m',hm,σ3,H3,I3,w3⟩
  | cont =>
   obtain⟨σ3,H3,I3,n3⟩:=q3;obtain⟨m',hm,w3⟩:=hN σ3 H3 n3;exact⟨m',hm,σ3,H3,I3,w3⟩
  | brk=>exact q3
  | ret v=>exact q3
 | false =>
  rw[qai qaI];exact wpAny_execs_nil ⟨σ1,H2,I2,q2⟩
end
structure It where
 go:Nat->Hp->Prop
 yld:Nat->Hp->V->Hp->Prop
 stop:Nat->Hp->Prop
def fi(X:Cx)(BN:List (Addr × Obj))(H:Hp)(b:Addr):Prop :=
 H b=none/\b≠X.env.locals/\b∉X.fs/\(b∈X.ex\/X.s₀.heap.objs.size<=b)/\(∀x c,X.env.cells.lookup x=some c->c≠b)/\∀p∈X.pn++BN,p.1≠b
theorem Inv.fpOk{X:Cx}{BN:List (Addr × Obj)}{σ:St}{H H':Hp}{s:Shared}{b:Addr}(I:Inv X BN σ H s)(hb:s.heap.objs.size<=b)(hn:H' b=none):fi X BN H' b:=by
 refine⟨hn,qbQ (qat I.lt hb),I.nofs hb,.inr (qaA I.sz hb),fun x c e z=>?_,fun p hp z=>?_⟩
 ·obtain⟨v,q⟩:=I.cell x c e;exact absurd (qat q.lt (by rw[z];exact hb)) (qaO _)
 ·exact absurd (qat (qao (I.pin p hp).1) (by rw[z];exact hb)) (qaO _)
inductive TIt (X:Cx) (BN:List (Addr × Obj)) (σ:St) (u:Value) (Y:V->Hp->Prop) (n:Heap->Prop) (fp:List Addr) (s2:Shared):Prop
 | mk (x:V) (H':Hp) (i:Inv X BN σ H' s2) (r:aK x u) (y:Y x H') (t:n s2.heap) (f:∀b∈fp,H' b=none):TIt X BN σ u Y n fp s2
structure Turn (P:Program) (w:World) (K:qaa) (tg:Expr) (J:It) (fp:List Addr) (it:Addr) (tn:Nat->Heap->Prop):Prop where
 mem:it∈fp
 obj:∀i h,tn i h->∀b∈fp,∃o,h.get? b=some o/\∀v,o.data≠.cell v
 keep:∀i h h',tn i h->(∀b∈fp,∀o,h.get? b=some o->h'.get? b=some o)->tn i h'
 item:∀(X:Cx),X.prog=P->X.w=w->X.K=K->X.calm=true->∀(i:Nat) (BN:List (Addr × Obj)) (s:Shared) (σ:St) (H:Hp) (E:Value->Shared->Prop),Inv X BN σ H s->(∀b∈fp,fi X BN H b)->tn i s.heap->J.go i H ->
  wpAny (model P w) X.A (pyNext (.ref it)) (fun r s1=>∃u,r=some u /\
   wpAny (model P w) X.A (letOwnedTupleGo tg (.ref it) u) (fun _ s2=>TIt X BN σ u (J.yld i H) (tn (i+1)) fp s2) E s1) E s
 done:∀(X:Cx),X.prog=P->X.w=w->X.K=K->X.calm=true->∀(i:Nat) (BN:List (Addr × Obj)) (s:Shared) (σ:St) (H:Hp) (E:Value->Shared->Prop),Inv X BN σ H s->(∀b∈fp,fi X BN H b)->tn i s.heap->J.stop i H ->
  wpAny (model P w) X.A (pyNext (.ref it)) (fun r s1=>r=none/\Inv X BN σ H s1) E s
 self:∀(A:Around) (i:Nat) (s:Shared) (Q:Value->Shared->Prop) (E:Value->Shared->Prop),tn i s.heap->Q (.ref it) s->wpAny (model P w) A (pyIter (.ref it)) Q E s
abbrev TI:=St->Hp->(It->Hp->Prop)->Prop
inductive PIE (X:Cx) (BN:List (Addr × Obj)) (σ:St) (tg:Expr) (R:It->Hp->Prop) (itv:Value) (s2:Shared):Prop
 | mk (it:Addr) (fp:List Addr) (tn:Nat->Heap->Prop) (J:It) (H':Hp) (e:itv=.ref it) (i:Inv X BN σ H' s2) (t:Turn X.prog X.w X.K tg J fp it tn) (n:tn 0 s2.heap) (f:∀b∈fp,fi X BN H' b) (r:R J H'):PIE X BN σ tg R itv s2
def PI(X:Cx)(tg iter:Expr)(wi:TI):Prop :=
 ∀(BN:List (Addr × Obj)) (s:Shared) (σ:St) (H:Hp) (R:It->Hp->Prop),Inv X BN σ H s->wi σ H R ->
  wpAny (model X.prog X.w) X.A (eval iter X.env) (fun v s1=>wpAny (model X.prog X.w) X.A (pyIter v) (PIE X BN σ tg R) X.xe s1) X.xe s
theorem qS(ho:s.heap.get? it=some o)(hc:o.cls=.type n)(hd:o.data=.fields vs)
  (hn:["enumerate","zip","dict_itemiterator","dict_reverseitemiterator","odict_iterator","itertools.zip_longest","itertools.pairwise"].contains n=false) (hQ:Q () s):wpAny M A (letOwnedTupleGo tg (.ref it) u) Q E s:=by
 unfold letOwnedTupleGo;cases tg <;> first
  | exact qaw hQ
  | (cases u <;> first
    | exact qaw hQ
    | (refine qah (wpAny_load ho ?_)
       rw[hc,hd];show wpAny M A (if (["enumerate","zip","dict_itemiterator","dict_reverseitemiterator","odict_iterator","itertools.zip_longest","itertools.pairwise"].contains n && vs[0]? == some (rawInt _))=true then _ else _) Q E s;rw[qai (by intro h;rw[hn,Bool.false_and] at h;cases h)]
       exact qaw hQ))
def Itl(K:qaa)(a:Addr):It :=
 ⟨fun i H=>∃xs x,SqL K H a xs/\xs[i]?=some x,fun i H x H'=>H'=H/\∀xs,SqL K H a xs->xs[i]?=some x,fun i H=>∃xs,SqL K H a xs/\xs.length<=i⟩
def Itt(K:qaa)(a:Addr):It :=
 ⟨fun i H=>∃xs x,SqT K H a xs/\xs[i]?=some x,fun i H x H'=>H'=H/\∀xs,SqT K H a xs->xs[i]?=some x,fun i H=>∃xs,SqT K H a xs/\xs.length<=i⟩
def Itr(lo:Int)(n:Nat):It:=⟨fun i _=>i<n,fun i H x H'=>H'=H/\x=.int (lo+i),fun i _=>n<=i⟩
theorem se{P:Program}{w:World}{K:qaa}{tg:Expr}(a it:Addr):Turn P w K tg (Itl K a) [it] it (fun i h=>h.IsListIter it a i) where
 mem:=by simp
 obj:=fun i h st b hb=>by
  have e:b=it:=by simpa using hb
  subst e;obtain⟨o,e,c,d⟩:=st;exact⟨o,e,fun v z=>by rw[d] at z;cases z⟩
 keep:=fun i h h' st k=>st.at fun o e=>k it (by simp) o e
 item:=by
  intro X hP hw hK hc i BN s σ H E I hf st hg;subst hP hw hK;obtain⟨xs,x,hq,hx⟩:=hg;obtain⟨its,rv,p,hz⟩:=I.list hq;obtain⟨u,hu,ru⟩:=rv.get hx;obtain⟨f0,f1,f2,f3,f4,f5⟩:=hf it (by simp);refine wpAny_pyNext_list_item st p.isList (x:=u) (by simpa using hu) fun h' st' sb=>?_;have I1:Inv X BN σ H { s with heap:=h'}:=I.turned (t':=s.toks) (fun b o hb e=>(sb.2 b hb).trans e) f0 f1 f3 f4 f5;obtain⟨o,e,c,d⟩:=id st';exact⟨u,rfl,qS (s:={ s with heap:=h'}) e c d (by decide) ⟨x,H,I1,ru,⟨rfl,fun ys hy=>by rw[I.list_inj hy hq];exact hx⟩,st',fun b hb=>(hf b hb).1⟩⟩
 done:=by
  intro X hP hw hK hc i BN s σ H E I hf st hg;subst hP hw hK;obtain⟨xs,hq,hx⟩:=hg;obtain⟨its,rv,p,hz⟩:=I.list hq;obtain⟨f0,f1,f2,f3,f4,f5⟩:=hf it (by simp);have hl:=rv.length;exact wpAny_pyNext_list_end (I.ok.hd hc) st p.isList (by simp;omega) fun h' eb=>⟨rfl,I.turned (t':=s.toks) (fun b o hb e=>eb b o hb e) f0 f1 f3 f4 f5⟩
 self:=fun _ _ _ _ _ st h=>wpAny_pyIter_listiter st h
theorem qz{P:Program}{w:World}{K:qaa}{tg:Expr}(a it:Addr):Turn P w K tg (Itt K a) [it] it (fun i h=>h.IsTupleIter it a i) where
 mem:=by simp
 obj:=fun i h st b hb=>by
  have e:b=it:=by simpa using hb
  subst e;obtain⟨o,e,c,d⟩:=st;exact⟨o,e,fun v z=>by rw[d] at z;cases z⟩
 keep:=fun i h h' st k=>st.at fun o e=>k it (by simp) o e
 item:=by
  intro X hP hw hK hc i BN s σ H E I hf st hg;subst hP hw hK;obtain⟨xs,x,hq,hx⟩:=hg;obtain⟨its,rv,p,hz⟩:=I.tuple hq;obtain⟨u,hu,ru⟩:=rv.get hx;obtain⟨f0,f1,f2,f3,f4,f5⟩:=hf it (by simp);refine wpAny_pyNext_tuple_item st (show s.heap.IsTuple a its.toArray from p) (x:=u) (by simpa using hu) fun h' st' sb=>?_;have I1:Inv X BN σ H { s with heap:=h'}:=I.turned (t':=s.toks) (fun b o hb e=>(sb.2 b hb).trans e) f0 f1 f3 f4 f5;obtain⟨o,e,c,d⟩:=id st';exact⟨u,rfl,qS (s:={ s with heap:=h'}) e c d (by decide) ⟨x,H,I1,ru,⟨rfl,fun ys hy=>by rw[I.tuple_inj hy hq];exact hx⟩,st',fun b hb=>(hf b hb).1⟩⟩
 done:=by
  intro X hP hw hK hc i BN s σ H E I hf st hg;subst hP hw hK;obtain⟨xs,hq,hx⟩:=hg;obtain⟨its,rv,p,hz⟩:=I.tuple hq;obtain⟨f0,f1,f2,f3,f4,f5⟩:=hf it (by simp);have hl:=rv.length;exact wpAny_pyNext_tuple_end (I.ok.hd hc) st (show s.heap.IsTuple a its.toArray from p) (by simp;omega) fun h' eb=>⟨rfl,I.turned (t':=s.toks) (fun b o hb e=>eb b o hb e) f0 f1 f3 f4 f5⟩
 self:=fun _ _ _ _ _ st h=>wpAny_pyIter_tupleiter st h
theorem qC{P:Program}{w:World}{K:qaa}{tg:Expr}(it:Addr)(lo:Int)(n:Nat):Turn P w K tg (Itr lo n) [it] it (fun i h=>IsRangeIter h it (lo+(i:Nat) * 1) ((n:Int) - (i:Nat)) 1) where
 mem:=by simp
 obj:=fun i h st b hb=>by
  have e:b=it:=by simpa using hb
  subst e
  exact⟨_,st,fun v z=>by
   have z':Data.fields _=Data.cell v:=z
   cases z'⟩
 keep:=fun i h h' st k=>k it (by simp) _ st
 item:=by
  intro X hP hw hK hc i BN s σ H E I hf st hg;subst hP hw hK;obtain⟨f0,f1,f2,f3,f4,f5⟩:=hf it (by simp);have W:=Walks.range (prog:=X.prog) (w:=X.w) (I.ok.hd hc) it lo 1 n;refine W.item i s _ _ hg st fun v h' tk hv st' kk=>?_;obtain⟨t,rfl⟩:=hv;have I1:Inv X BN σ H { s with heap:=h',toks:=tk}:=I.turned (fun b o hb e=>kk b o (by simpa using hb) e) f0 f1 f3 f4 f5;refine⟨_,rfl,qS (s:={ s with heap:=h',toks:=tk}) (n:="range_iterator") st' rfl rfl (by decide) ⟨.int (lo+i),H,I1,⟨t,?_⟩,⟨rfl,rfl⟩,st',fun b hb=>(hf b hb).1⟩⟩;rw[Int.mul_one]
 done:=by
  intro X hP hw hK hc i BN s σ H E I hf st hg;subst hP hw hK;obtain⟨f0,f1,f2,f3,f4,f5⟩:=hf it (by simp);exact wpAny_pyNext_range_end (I.ok.hd hc) st (by have:n<=i:=hg;omega) fun h' eb=>⟨rfl,I.turned (t':=s.toks) (fun b o hb e=>eb b o hb e) f0 f1 f3 f4 f5⟩
 self:=fun _ _ _ _ _ st h=>wpAny_pyIter_rangeiter st h
section
variable {X:Cx} {tg:Expr}
def iList(K:qaa)(tl:TE):TI:=fun σ H R=>tl σ H fun x H1=>∃a,x=.ref a/\(∃xs,SqL K H1 a xs)/\R (Itl K a) H1
def iTup(K:qaa)(tl:TE):TI:=fun σ H R=>tl σ H fun x H1=>∃a,x=.ref a/\(∃xs,SqT K H1 a xs)/\R (Itt K a) H1
theorem pi_list{l:Expr}{tl:TE}(hl:PE X l tl):PI X tg l (iList X.K tl):=by
 intro BN s σ H R I h;refine thn (hl BN s σ H _ I h) fun v s1 ⟨x,H1,I1,r1,q1⟩=>?_;obtain⟨a,e,⟨xs,hq⟩,q⟩:=q1;subst e;cases r1;obtain⟨its,rv,p,hz⟩:=I1.list hq;refine wpAny_pyIter_list p.isList ?_;refine⟨s1.heap.objs.size,[s1.heap.objs.size],_,_,H1,rfl,I1.kept (t':=s1.toks) fun b o e=>qae _ e,se a _,⟨_,qaz _ rfl,rfl,rfl⟩,fun b hb=>?_,q⟩;have e:b=s1.heap.objs.size:=by simpa using hb
 subst e;exact I1.fpOk (qag _) (I1.hok.fresh (qag _))
theorem pi_tup{l:Expr}{tl:TE}(hl:PE X l tl):PI X tg l (iTup X.K tl):=by
 intro BN s σ H R I h;refine thn (hl BN s σ H _ I h) fun v s1 ⟨x,H1,I1,r1,q1⟩=>?_;obtain⟨a,e,⟨xs,hq⟩,q⟩:=q1;subst e;cases r1;obtain⟨its,rv,p,hz⟩:=I1.tuple hq;refine wpAny_pyIter_tuple (show s1.heap.IsTuple a its.toArray from p) ?_;refine⟨s1.heap.objs.size,[s1.heap.objs.size],_,_,H1,rfl,I1.kept (t':=s1.toks) fun b o e=>qae _ e,qz a _,⟨_,qaz _ rfl,rfl,rfl⟩,fun b hb=>?_,q⟩;have e:b=s1.heap.objs.size:=by simpa using hb
 subst e;exact I1.fpOk (qag _) (I1.hok.fresh (qag _))
theorem tH{BN:List (Addr × Obj)}{σ:St}{H:Hp}{s:Shared}{R:It->Hp->Prop}{E:Value->Shared->Prop}{lo hi:Int}{t u v:Tok}{tk:Nat}(I:Inv X BN σ H s)(h1:-(2 ^ 62)<=lo)(h2:lo<2 ^ 62)(h3:-(2 ^ 62)<=hi)(h4:hi<2 ^ 62)
  (q:R (Itr lo (hi - lo).toNat) H):wpAny (model X.prog X.w) X.A (pyIter (.ref s.heap.objs.size)) (PIE X BN σ tg R) E { s with heap:=s.heap.push { cls:=.type "range",data:=.fields #[.int lo t,.int hi u,.int 1 v]},toks:=tk}:=by
 refine wpAny_pyIter_range (IsRange.new ..) (small_one h1 h2 h3 h4) ?_;have I1:Inv X BN σ H { s with heap:=s.heap.push { cls:=.type "range",data:=.fields #[.int lo t,.int hi u,.int 1 v]},toks:=tk}:=I.kept fun b o e=>qae _ e
 refine⟨(s.heap.push { cls:=.type "range",data:=.fields #[.int lo t,.int hi u,.int 1 v]}).objs.size,[(s.heap.push { cls:=.type "range",data:=.fields #[.int lo t,.int hi u,.int 1 v]}).objs.size],_,_,H,rfl,
  I1.kept (t':=tk) fun b o e=>qae _ e,qC _ lo (hi - lo).toNat,?_,fun b hb=>?_,q⟩
 ·have e1:lo+((0:Nat):Int) * 1=lo:=by simp
  have e2:(((hi - lo).toNat:Nat):Int) - ((0:Nat):Int)=Builtin.Range.rangeSize lo hi 1:=by rw[rangeSize_one];split <;> omega
  show IsRangeIter _ _ (lo+((0:Nat):Int) * 1) ((((hi - lo).toNat:Nat):Int) - ((0:Nat):Int)) 1;rw[e1,e2];exact qaz _ rfl
 ·have e:b=(s.heap.push { cls:=.type "range",data:=.fields #[.int lo t,.int hi u,.int 1 v]}).objs.size:=by simpa using hb
  subst e;exact I1.fpOk (qag _) (I1.hok.fresh (qag _))
def iRng1(ta:TA):TI:=fun σ H R=>ta σ H fun vs H1=>∃j:Int,vs=[.int j] /\ -(2 ^ 62)<=j/\j<2 ^ 62/\R (Itr 0 j.toNat) H1
theorem rA{a:Expr}{ta:TA}{p pos:Pos}(hg:Gl X "range")(hm:X.mg "range"=none)(ha:PA X [a] ta)(hs:starEach [a] X.env=[(false,eval a X.env)]:=by rfl):PI X tg (.Call (.Name "range" p) [a] [] pos) (iRng1 ta):=by
 intro BN s σ H R I h;refine Call_ (fB I hg hm boot_range (PyProof.Rows.callWith_type1 (thn (ha pos BN s σ H _ I h) fun us s1 ⟨vs,H1,I1,r1,q1⟩=>?_) hs rfl));obtain⟨j,e,q1,q2,q⟩:=q1;subst e
 cases r1 with
 | cons r rr =>
  cases rr;obtain⟨t,rfl⟩:=r;exact call_range_1 (tH I1 (by omega) (by omega) q1 q2 (by simpa using q))
def tFor(wi:TI)(g:TG)(tb:TS):TS:=fun D σ H=>wi σ H fun J H1=>∃W:Nat->Nat->St->Hp->Prop,(∃m,W 0 m σ H1)/\∀i m σ H,W i m σ H ->
 (J.stop i H/\D.nx σ H)\/(J.go i H/\∃N:St->Hp->Prop,(∀σ' H',N σ' H'->∃m',m'<m/\W (i+1) m' σ' H')/\∀x H',J.yld i H x H'->g x σ H' fun σ2 H2=>tb { D with nx:=N,ct:=N,bk:=D.nx} σ2 H2)
def gW(fp:List Addr)(h:Heap):List (Addr × Obj):=fp.filterMap fun b=>(h.get? b).map fun o=>(b,o)
theorem dD(hb:b∈fp)(e:h.get? b=some o):(b,o)∈gW fp h:=qbI.mpr ⟨b,hb,by rw[e];rfl⟩
theorem rP(hp:p∈gW fp h):p.1∈fp/\h.get? p.1=some p.2:=by
 obtain⟨b,hb,e⟩:=qbI.mp hp
 cases q:h.get? b with
 | none=>rw[q] at e;cases e
 | some o =>
  rw[q] at e;have e':(b,o)=p:=Option.some.inj e;subst e';exact⟨hb,q⟩
theorem Inv.pinned{BN:List (Addr × Obj)}{σ:St}{H:Hp}{s:Shared}{fp:List Addr}(I:Inv X BN σ H s)(hf:∀b∈fp,fi X BN H b)(ho:∀b∈fp,∃o,s.heap.get? b=some o/\∀v,o.data≠.cell v):Inv X (BN++gW fp s.heap) σ H s :=
 I.pins_of fun p hp=>(qav.mp hp).elim (fun z=>I.pin p (qac _ z)) fun z=>by
  obtain⟨hb,e⟩:=rP z;obtain⟨f0,f1,f2,_⟩:=hf p.1 hb;obtain⟨o,e',d⟩:=ho p.1 hb;rw[e] at e';cases e';exact⟨e,f0,f1,f2,d⟩
theorem Inv.unpinned{BN pl:List (Addr × Obj)}{σ:St}{H:Hp}{s:Shared}(I:Inv X (BN++pl) σ H s):Inv X BN σ H s:=I.pins_of fun p hp=>I.pin p (qac _ (qay _ hp))
theorem ps_for(hp:PassesOwn (model X.prog X.w) X.A X.env X.xe)(hc:X.calm=true)(hi:PI X tg iter wi)(hg:PG X tg g)(hb:PSs X body tb)
  (hs:∀x,foldedSetIterable iter X.env x=pure x:=by intro _;rfl):PS X (.For tg iter body [] pos) (tFor wi g tb):=by
 intro BN s σ H D I h;refine wpAny_For (thn (hi BN s σ H _ I h) fun v s1 h1=>thn h1 fun itv s2 h2=>?_) hs;obtain⟨it,fp,tn,J,H2,e,I2,T,st2,f2,W,⟨m0,w0⟩,turn⟩:=h2;subst e;have stat:∀{H':Hp},(∀b∈fp,H' b=none)->∀b∈fp,fi X BN H' b:=fun hn b hb=>⟨hn b hb,(f2 b hb).2⟩;refine codeAny_forLoop_any (fun n s'=>∃i σ' H',Inv X BN σ' H' s'/\tn i s'.heap/\(∀b∈fp,H' b=none)/\W i n σ' H') ?_ m0 ⟨0,σ,H2,I2,st2,fun b hb=>(f2 b hb).1,w0⟩;rintro n s3 ⟨i,σ3,H3,I3,st3,fr3,w3⟩;rcases turn i n σ3 H3 w3 with ⟨stop,qn⟩|⟨go,N,hN,step⟩
 ·refine wpAny_passesOwn hp (thn (T.done X rfl rfl rfl hc i BN s3 σ3 H3 X.xe I3 (stat fr3) st3 stop) fun r s4 ⟨hr,I4⟩=>?_);subst hr;exact wpAny_execs_nil ⟨σ3,H3,I4,qn⟩
 ·refine wpAny_passesOwn hp (thn (T.item X rfl rfl rfl hc i BN s3 σ3 H3 X.xe I3 (stat fr3) st3 go) fun r s4 ⟨u,hr,h4⟩=>?_);subst hr;refine wpAny_passesOwn hp (thn h4 fun _ s5 ⟨x,H5,I5,r5,y5,st5,fr5⟩=>?_);have I5':=I5.pinned (stat fr5) (T.obj _ _ st5);refine wpAny_passesOwn hp (thn (hg _ s5 σ3 H5 x u _ I5' r5 (step x H5 y5)) fun _ s6 ⟨σ6,H6,I6,q6⟩=>?_);refine wpAny_passesOwn hp (thn (hb _ s6 σ6 H6 _ I6 q6) fun f s7 q7=>?_);have again:∀{σ7:St} {H7:Hp},Inv X (BN++gW fp s5.heap) σ7 H7 s7->N σ7 H7->∃m,m<n/\∃i σ' H',Inv X BN σ' H' s7/\tn i s7.heap/\(∀b∈fp,H' b=none)/\W i m σ' H':=fun {σ7 H7} I7 n7=>by
   obtain⟨m',hm,w7⟩:=hN σ7 H7 n7;refine⟨m',hm,i+1,σ7,H7,I7.unpinned,T.keep _ _ _ st5 fun b hb o e=>(I7.pin (b,o) (qac _ (qac _ (dD hb e)))).1,fun b hb=>?_,w7⟩;obtain⟨o,e,d⟩:=T.obj _ _ st5 b hb;exact (I7.pin (b,o) (qac _ (qac _ (dD hb e)))).2.1
  cases f with
  | next=>obtain⟨σ7,H7,I7,n7⟩:=q7;exact again I7 n7
  | cont=>obtain⟨σ7,H7,I7,n7⟩:=q7;exact again I7 n7
  | brk=>obtain⟨σ7,H7,I7,q7⟩:=q7;exact⟨σ7,H7,I7.unpinned,q7⟩
  | ret v=>obtain⟨x7,σ7,H7,I7,r7,q7⟩:=q7;exact⟨x7,σ7,H7,I7.unpinned,r7,q7⟩
end
abbrev R2:=V->V->Hp->VK->Prop
def OpR(X:Cx)(f:Value->Value->Sem Value)(r:R2):Prop :=
 ∀(BN:List (Addr × Obj)) (s:Shared) (σ:St) (H:Hp) (x y:V) (v u:Value) (Q:VK),Inv X BN σ H s->aK x v->aK y u->r x y H Q ->
  wpAny (model X.prog X.w) X.A (f v u) (EP X BN σ Q) X.xe s
def UnR(X:Cx)(f:Value->Sem Value)(r:V->Hp->VK->Prop):Prop :=
 ∀(BN:List (Addr × Obj)) (s:Shared) (σ:St) (H:Hp) (x:V) (v:Value) (Q:VK),Inv X BN σ H s->aK x v->r x H Q ->
  wpAny (model X.prog X.w) X.A (f v) (EP X BN σ Q) X.xe s
def bK(X:Cx)(f:Value)(r:List V->Hp->VK->Prop):Prop :=
 ∀(BN:List (Addr × Obj)) (s:Shared) (σ:St) (H:Hp) (xs:List V) (us:List Value) (Q:VK),Inv X BN σ H s->ar xs us->r xs H Q ->
  wpAny (model X.prog X.w) X.A (call f us) (EP X BN σ Q) X.xe s
def TruR(X:Cx)(r:V->Hp->(Bool->Hp->Prop)->Prop):Prop :=
 ∀(BN:List (Addr × Obj)) (s:Shared) (σ:St) (H:Hp) (x:V) (v:Value) (Q:Bool->Hp->Prop),Inv X BN σ H s->aK x v->r x H Q ->
  wpAny (model X.prog X.w) X.A (truthy v) (TP X BN σ Q) X.xe s
def tOp(r:R2)(ta tb:TE):TE:=fun σ H Q=>ta σ H fun x H1=>tb σ H1 fun y H2=>r x y H2 Q
def tUn(r:V->Hp->VK->Prop)(ta:TE):TE:=fun σ H Q=>ta σ H fun x H1=>r x H1 Q
def rI(C:Int->Int->Prop)(g:Int->Int->V):R2:=fun x y H Q=>∃i j,x=.int i/\y=.int j/\C i j/\Q (g i j) H
def rI0(g:Int->Int->V):R2:=fun x y H Q=>∃i j,x=.int i/\y=.int j/\Q (g i j) H
def rU(g:Int->V):V->Hp->VK->Prop:=fun x H Q=>∃i,x=.int i/\Q (g i) H
section
variable {X:Cx} {a b c:Expr} {ta tb tc:TE} {pos:Pos}
theorem binT(ha:PE X a ta)(hb:PE X b tb){BN:List (Addr × Obj)}{s:Shared}{σ:St}{H:Hp}{R:V->V->Hp->Prop}(I:Inv X BN σ H s)
  (h:ta σ H fun x H1=>tb σ H1 fun y H2=>R x y H2) {Q:Value->Shared->Prop} {f:Value->Value->Sem Value}
  (hf:∀v u s2 x y H2,Inv X BN σ H2 s2->aK x v->aK y u->R x y H2->wpAny (model X.prog X.w) X.A (f v u) Q X.xe s2) :
  wpAny (model X.prog X.w) X.A (eval a X.env) (fun v s₁=>wpAny (model X.prog X.w) X.A (eval b X.env) (fun u s₂=>wpAny (model X.prog X.w) X.A (f v u) Q X.xe s₂) X.xe s₁) X.xe s:=by
 refine thn (ha BN s σ H _ I h) fun v s1 ⟨x,H1,I1,r1,q1⟩=>?_;refine thn (hb BN s1 σ H1 _ I1 q1) fun u s2 ⟨y,H2,I2,r2,q2⟩=>?_;exact hf v u s2 x y H2 I2 r1 r2 q2
theorem pe_op{op:Operator}{r:R2}(ho:OpR X (binaryOp op) r)(ha:PE X a ta)(hb:PE X b tb):PE X (.BinOp a op b pos) (tOp r ta tb):=by
 intro BN s σ H Q I h;exact wpAny_BinOp (binT ha hb I h fun v u s2 x y H2 I2 rx ry q=>ho BN s2 σ H2 x y v u Q I2 rx ry q)
theorem pe_un(ho:UnR X (unaryOp op) r)(ha:PE X a ta):PE X (.UnaryOp op a pos) (tUn r ta):=by
 intro BN s σ H Q I h;exact UnaryOp_ (thn (ha BN s σ H _ I h) fun v s1 ⟨x,H1,I1,r1,q1⟩=>ho BN s1 σ H1 x v Q I1 r1 q1)
theorem opI{f:Value->Value->Sem Value}{C:Int->Int->Prop}{g:Int->Int->Int}
  (rule:∀(i j:Int) (t u:Tok) (s:Shared) (Q:Value->Shared->Prop) (E:Value->Shared->Prop),C i j->Q (.int (g i j) s.toks) { s with toks:=s.toks+1}->wpAny (model X.prog X.w) X.A (f (.int i t) (.int j u)) Q E s) :
  OpR X f (rI C fun i j=>.int (g i j)):=by
 intro BN s σ H x y v u Q I rx ry h;obtain⟨i,j,rfl,rfl,hc,q⟩:=h;obtain⟨t,rfl⟩:=rx;obtain⟨t',rfl⟩:=ry;exact rule i j t t' s _ _ hc ⟨.int (g i j),H,I.tok _,⟨_,rfl⟩,q⟩
theorem opI0{f:Value->Value->Sem Value}{g:Int->Int->Int}
  (rule:∀(i j:Int) (t u:Tok) (s:Shared) (Q:Value->Shared->Prop) (E:Value->Shared->Prop),Q (.int (g i j) s.toks) { s with toks:=s.toks+1}->wpAny (model X.prog X.w) X.A (f (.int i t) (.int j u)) Q E s) :
  OpR X f (rI0 fun i j=>.int (g i j)):=by
 intro BN s σ H x y v u Q I rx ry h;obtain⟨i,j,rfl,rfl,q⟩:=h;obtain⟨t,rfl⟩:=rx;obtain⟨t',rfl⟩:=ry;exact rule i j t t' s _ _ ⟨.int (g i j),H,I.tok _,⟨_,rfl⟩,q⟩
theorem opB0{f:Value->Value->Sem Value}{g:Int->Int->Bool}
  (rule:∀(i j:Int) (t u:Tok) (s:Shared) (Q:Value->Shared->Prop) (E:Value->Shared->Prop),Q (.bool (g i j)) s->wpAny (model X.prog X.w) X.A (f (.int i t) (.int j u)) Q E s) :
  OpR X f (rI0 fun i j=>.bl (g i j)):=by
 intro BN s σ H x y v u Q I rx ry h;obtain⟨i,j,rfl,rfl,q⟩:=h;obtain⟨t,rfl⟩:=rx;obtain⟨t',rfl⟩:=ry;exact rule i j t t' s _ _ ⟨.bl (g i j),H,I,rfl,q⟩
def fe(i j:Int):Prop:=0<=j/\j<=1000000/\i.natAbs<2 ^ 64
theorem op_add:OpR X (binaryOp .Add) (rI0 fun i j=>.int (i+j)):=opI0 fun _ _ _ _ _ _ _ q=>add_int q
theorem op_sub:OpR X (binaryOp .Sub) (rI0 fun i j=>.int (i - j)):=opI0 fun _ _ _ _ _ _ _ q=>sub_int q
theorem op_pow:OpR X (binaryOp .Pow) (rI fe fun i j=>.int (i ^ j.toNat)):=opI fun _ _ _ _ _ _ _ hc q=>pow_int_small hc.1 hc.2.1 hc.2.2 q
theorem unI{f:Value->Sem Value}{g:Int->Int}
  (rule:∀(i:Int) (t:Tok) (s:Shared) (Q:Value->Shared->Prop) (E:Value->Shared->Prop),Q (.int (g i) s.toks) { s with toks:=s.toks+1}->wpAny (model X.prog X.w) X.A (f (.int i t)) Q E s) :
  UnR X f (rU fun i=>.int (g i)):=by
 intro BN s σ H x v Q I rx h;obtain⟨i,rfl,q⟩:=h;obtain⟨t,rfl⟩:=rx;exact rule i t s _ _ ⟨.int (g i),H,I.tok _,⟨_,rfl⟩,q⟩
theorem un_neg:UnR X (unaryOp .USub) (rU fun i=>.int (-i)):=unI fun _ _ _ _ _ q=>neg_int q
end
section
variable {X:Cx} {a b c:Expr} {ta tb tc:TE} {pos:Pos}
theorem si{BN:List (Addr × Obj)}{σ:St}{H:Hp}{s:Shared}{Q:VK}{k k':Bool}(I:Inv X BN σ H s)(q:Q (.bl k) H)(e:k=k'):EP X BN σ Q (.bool k') s:=by
 subst e;exact⟨.bl k,H,I,rfl,q⟩
theorem op_lt:OpR X (compareOp .Lt) (rI0 fun i j=>.bl (decide (i<j))):=opB0 fun _ _ _ _ _ _ _ q=>lt_int q
theorem op_le:OpR X (compareOp .LtE) (rI0 fun i j=>.bl (decide (i<=j))):=opB0 fun _ _ _ _ _ _ _ q=>le_int q
theorem op_gt:OpR X (compareOp .Gt) (rI0 fun i j=>.bl (decide (j<i))):=opB0 fun _ _ _ _ _ _ _ q=>gt_int q
theorem op_ge:OpR X (compareOp .GtE) (rI0 fun i j=>.bl (decide (j<=i))):=opB0 fun _ _ _ _ _ _ _ q=>ge_int q
theorem op_isN:OpR X (compareOp .Is) (fun x y H Q=>y=.non/\Q (.bl (decide (x=.non))) H):=by
 intro BN s σ H x y v u Q I rx ry h;obtain⟨rfl,q⟩:=h;cases ry;refine is_none_gen (si I q ?_);cases x <;> first
  | (cases rx;rfl)
  | (obtain⟨t,rfl⟩:=rx;rfl)
theorem op_notN:OpR X (compareOp .IsNot) (fun x y H Q=>y=.non/\Q (.bl (!decide (x=.non))) H):=by
 intro BN s σ H x y v u Q I rx ry h;obtain⟨rfl,q⟩:=h;cases ry;refine isnot_none_gen (si I q ?_);cases x <;> first
  | (cases rx;rfl)
  | (obtain⟨t,rfl⟩:=rx;rfl)
theorem nomark(b:Expr)(h:op≠.In:=by decide)(h2:op≠.NotIn:=by decide):behindInMarks op b=false:=by
 have e1:(op == CmpOp.In)=false:=by cases op <;> first | rfl | exact absurd rfl h
 have e2:(op == CmpOp.NotIn)=false:=by cases op <;> first | rfl | exact absurd rfl h2
 cases b <;> simp[behindInMarks,e1,e2]
theorem pe_cmpR{op:CmpOp}{r:R2}(ho:OpR X (compareOp op) r)(ha:PE X a ta)(hb:PE X b tb)(hm:behindInMarks op b=false):PE X (.Compare a [op] [b] pos) (tOp r ta tb):=by
 intro BN s σ H Q I h;exact wpAny_Compare1 (binT ha hb I h fun v u s2 x y H2 I2 rx ry q=>ho BN s2 σ H2 x y v u Q I2 rx ry q) hm
def tTest(t:TE):TT:=fun σ H Q=>t σ H fun x H'=>∃k,x=.bl k/\Q k H'
theorem pt_cmpR(ho:OpR X (compareOp op) r)(ha:PE X a ta)(hb:PE X b tb)(hm:behindInMarks op b=false):PT X (.Compare a [op] [b] pos) (tTest (tOp r ta tb)):=by
 intro BN s σ H Q I h
 refine wpAny_isTrue_Compare1 (thn (ha BN s σ H _ I h) fun v s1 ⟨x,H1,I1,r1,q1⟩=>thn (hb BN s1 σ H1 _ I1 q1) fun u s2 ⟨y,H2,I2,r2,q2⟩ =>
  thn (ho BN s2 σ H2 x y v u _ I2 r1 r2 q2) fun c s3 ⟨z,H3,I3,r3,k,e,q3⟩=>?_) hm
 subst e;cases r3;exact wpAny_truthy_bool ⟨H3,I3,q3⟩
def sF(r r':R2)(ta tb tc:TE):TE:=fun σ H Q=>ta σ H fun x H1=>tb σ H1 fun y H2=>r x y H2 fun z H3=>∃k,z=.bl k /\
 (if k=true then tc σ H3 fun w' H4=>r' y w' H4 Q else Q (.bl false) H3)
theorem uB(ho:OpR X (compareOp op) r)(ho':OpR X (compareOp op') r')(ha:PE X a ta)(hb:PE X b tb)(hc:PE X c tc)
  (hm:lastMarks [op,op'] [b,c]=false:=by with_unfolding_all rfl):PE X (.Compare a [op,op'] [b,c] pos) (sF r r' ta tb tc):=by
 intro BN s σ H Q I h
 refine Compare_chain (thn (ha BN s σ H _ I h) fun v s1 ⟨x,H1,I1,r1,q1⟩=>chain_link (thn (hb BN s1 σ H1 _ I1 q1) fun u s2 ⟨y,H2,I2,r2,q2⟩ =>
  thn (ho BN s2 σ H2 x y v u _ I2 r1 r2 q2) fun d s3 ⟨z,H3,I3,r3,k,e,q3⟩=>?_)) hm
 subst e;cases r3;refine wpAny_truthy_bool ?_
 cases k with
 | false=>exact ite_ff ⟨.bl false,H3,I3,rfl,q3⟩
 | true=>exact ite_tt (chain_last (thn (hc BN s3 σ H3 _ I3 q3) fun w' s4 ⟨z',H4,I4,r4,q4⟩=>ho' BN s4 σ H4 y z' u w' Q I4 r2 r4 q4))
def TruV(K:qaa)(x:V)(H:Hp)(k:Bool):Prop :=
 match x with
 | .non=>k=false
 | .bl b=>k=b
 | .int i=>k=(i != 0)
 | .str y=>y.length<=sizeLine/\k=((y.length:Int) != 0)
 | .byt y=>y.size<=sizeLine/\k=((y.size:Int) != 0)
 | .ref p=>(∃xs,SqL K H p xs/\k=!xs.isEmpty)\/(∃xs,SqT K H p xs/\k=!xs.isEmpty)\/∃kvs,H p=some (.dK kvs)/\k=!kvs.isEmpty
 | _=>False
theorem qk{κ:Type}{kvs:List (κ × V)}{vs:List (κ × Value)}(r:KV kvs vs):(!vs.isEmpty)=!kvs.isEmpty:=by
 cases r <;> rfl
theorem jQ(r:ar xs its):(!its.toArray.isEmpty)=!xs.isEmpty:=by
 cases r <;> simp
theorem ft:(sizeLine:Nat)<2 ^ 63:=by rw[sizeLine_eq];decide
theorem mz:TruR X (fun x H Q=>∃k,TruV X.K x H k/\Q k H):=by
 intro BN s σ H x v Q I rx h;obtain⟨k,e,q⟩:=h;have hl:=ft;have hs:sizeLine=16777216:=sizeLine_eq
 cases x with
 | non =>
  cases rx;have e':k=false:=e;subst e';exact truthy_none ⟨H,I,q⟩
 | bl b =>
  cases rx;have e':k=b:=e;subst e';exact wpAny_truthy_bool ⟨H,I,q⟩
 | int i =>
  obtain⟨t,rfl⟩:=rx;have e':k=(i != 0):=e;subst e';exact PySem.P.truthy_int ⟨H,I,q⟩
 | str y =>
  obtain⟨t,rfl⟩:=rx;obtain⟨hy,e'⟩:y.length<=sizeLine/\k=((y.length:Int) != 0):=e;subst e';exact PySem.P.truthy_str (by omega) ⟨H,I.tok _,q⟩
 | byt y =>
  obtain⟨t,rfl⟩:=rx;obtain⟨hy,e'⟩:y.size<=sizeLine/\k=((y.size:Int) != 0):=e;subst e';exact PySem.W.truthy_bytes (by omega) ⟨H,I.tok _,q⟩
 | ref p =>
  cases rx;have e':(∃xs,SqL X.K H p xs/\k=!xs.isEmpty)\/(∃xs,SqT X.K H p xs/\k=!xs.isEmpty)\/∃kvs,H p=some (.dK kvs)/\k=!kvs.isEmpty:=e;rcases e' with ⟨xs,hx,e'⟩|⟨xs,hx,e'⟩|⟨kvs,hx,e'⟩
  ·subst e';obtain⟨its,r,pl,hz⟩:=I.list hx;have hlen:=r.length;exact wpAny_truthy_list pl.isList (by simp only[qal];omega) ⟨H,I.tok _,by rw[jQ r];exact q⟩
  ·subst e';obtain⟨its,r,pl,hz⟩:=I.tuple hx;have hlen:=r.length;exact truthy_tuple pl (by simp only[qal];omega) ⟨H,I.tok _,by rw[jQ r];exact q⟩
  ·subst e';obtain⟨hz,hS,vs,r,m⟩:kvs.length<=sizeLine/\(p == sysModules)=false/\∃vs,KV kvs vs/\s.heap.DictOf (kj X.prog X.w) p vs:=I.hok p _ hx;have hlen:kvs.length=vs.length:=Paired.length r;exact wpAny_truthy_dict hS m (by omega) ⟨H,I.tok _,by rw[qk r];exact q⟩
 | _=>exact (show False from e).elim
theorem tq(ha:PE X a ta)(he:∀whole,isTrue a X.env whole=(do let v <-whole;standAt a.pos;holding [v] (truthy v))) :
  PT X a (fun σ H Q=>ta σ H fun x H'=>∃k,TruV X.K x H' k/\Q k H'):=by
 intro BN s σ H Q I h;exact isTrue_plain (thn (ha BN s σ H _ I h) fun v s1 ⟨x,H1,I1,r1,q1⟩=>mz BN s1 σ H1 x v Q I1 r1 q1) (he _)
theorem qQ:OpR X (binaryOp .Add) (fun x y H Q=>∃i j,x=.str i/\y=.str j/\i.length+j.length<=sizeLine/\Q (.str (i++j)) H):=by
 intro BN s σ H x y v u Q I rx ry h;obtain⟨i,j,rfl,rfl,hz,q⟩:=h;obtain⟨t,rfl⟩:=rx;obtain⟨t',rfl⟩:=ry;exact add_str (fun t' tk=>⟨.str (i++j),H,I.tok _,⟨_,rfl⟩,q⟩) hz
theorem dC(r:ar [x] us):∃u,us=[u]/\aK x u:=by
 cases r with
 | cons r1 r2=>cases r2;exact⟨_,rfl,r1⟩
theorem vals2(r:ar [x,y] us):∃u w',us=[u,w']/\aK x u/\aK y w':=by
 cases r with
 | cons r1 r2 =>
  cases r2 with
  | cons r3 r4=>cases r4;exact⟨_,_,rfl,r1,r3⟩
theorem um:bK X (.builtin "abs") (fun xs H Q=>∃i,xs=[.int i]/\Q (.int (if i<0 then -i else i)) H):=by
 intro BN s σ H xs us Q I r h;obtain⟨i,rfl,q⟩:=h;obtain⟨u,rfl,t,rfl⟩:=dC r;exact call_abs_int fun u tk=>⟨.int (if i<0 then -i else i),H,I.tok _,⟨_,rfl⟩,q⟩
theorem rB(hc:X.calm=true):bK X (.builtin "max") (fun xs H Q=>∃i j,xs=[.int i,.int j]/\Q (.int (if j>i then j else i)) H):=by
 intro BN s σ H xs us Q I r h;obtain⟨i,j,rfl,q⟩:=h;obtain⟨u,w',rfl,⟨t,rfl⟩,⟨t',rfl⟩⟩:=vals2 r;refine max_two_ints (I.ok.hd hc) fun h' tk k=>⟨_,H,I.kept k,?_,q⟩;by_cases hj:j>i
 ·rw[qaf hj,qaf hj];exact⟨_,rfl⟩
 ·rw[qai hj,qai hj];exact⟨_,rfl⟩
theorem rN(hc:X.calm=true):bK X (.builtin "min") (fun xs H Q=>∃i j,xs=[.int i,.int j]/\Q (.int (if j<i then j else i)) H):=by
 intro BN s σ H xs us Q I r h;obtain⟨i,j,rfl,q⟩:=h;obtain⟨u,w',rfl,⟨t,rfl⟩,⟨t',rfl⟩⟩:=vals2 r;refine min_two_ints (I.ok.hd hc) fun h' tk k=>⟨_,H,I.kept k,?_,q⟩;by_cases hj:j<i
 ·rw[qaf hj,qaf hj];exact⟨_,rfl⟩
 ·rw[qai hj,qai hj];exact⟨_,rfl⟩
theorem k7:bK X (.type "int") (fun xs H Q=>(∃i,xs=[.int i]/\Q (.int i) H)\/∃k,xs=[.bl k]/\Q (.int (if k then 1 else 0)) H):=by
 intro BN s σ H xs us Q I r h;rcases h with ⟨i,rfl,q⟩|⟨k,rfl,q⟩
 ·obtain⟨u,rfl,t,rfl⟩:=dC r;exact call_int_int ⟨.int i,H,I,⟨_,rfl⟩,q⟩
 ·obtain⟨u,rfl,r1⟩:=dC r;cases r1;exact call_int_bool ⟨.int (if k then 1 else 0),H,I.tok _,⟨_,rfl⟩,q⟩
def LenV(K:qaa)(x:V)(H:Hp)(n:Nat):Prop :=
 match x with
 | .str y=>y.length<=sizeLine/\n=y.length
 | .byt y=>y.size<=sizeLine/\n=y.size
 | .ref p=>(∃xs,SqL K H p xs/\n=xs.length)\/∃xs,SqT K H p xs/\n=xs.length
 | _=>False
theorem gk:bK X (.builtin "len") (fun xs H Q=>∃x n,xs=[x]/\LenV X.K x H n/\Q (.int n) H):=by
 intro BN s σ H xs us Q I r h;obtain⟨x,n,rfl,e,q⟩:=h;obtain⟨u,rfl,rx⟩:=dC r;have hl:=ft;have hs:sizeLine=16777216:=sizeLine_eq
 cases x with
 | str y =>
  obtain⟨t,rfl⟩:=rx;obtain⟨hy,e'⟩:y.length<=sizeLine/\n=y.length:=e;subst e';exact len_str (by omega) ⟨.int _,H,I.tok _,⟨_,rfl⟩,q⟩
 | byt y =>
  obtain⟨t,rfl⟩:=rx;obtain⟨hy,e'⟩:y.size<=sizeLine/\n=y.size:=e;subst e';exact PySem.W.len_bytes (by omega) ⟨.int _,H,I.tok _,⟨_,rfl⟩,q⟩
 | ref p =>
  cases rx;have e':(∃xs,SqL X.K H p xs/\n=xs.length)\/∃xs,SqT X.K H p xs/\n=xs.length:=e;rcases e' with ⟨xs,hx,e'⟩|⟨xs,hx,e'⟩
  ·subst e';obtain⟨its,r',pl,hz⟩:=I.list hx;have hlen:=r'.length;exact Calls.call_len_list pl.isList (by simp only[qal];omega) ⟨.int xs.length,H,I.tok _,⟨_,by simp only[qal];rw[hlen]⟩,q⟩
  ·subst e';obtain⟨its,r',pl,hz⟩:=I.tuple hx;have hlen:=r'.length;exact len_tuple pl (by simp only[qal];omega) ⟨.int xs.length,H,I.tok _,⟨_,by simp only[qal];rw[hlen]⟩,q⟩
 | _=>exact (show False from e).elim
end
section
variable {prog:Program} {w:World} {A:Around} {E:Value→Shared→Prop} {s:Shared} {K:qaa} {x dx C f:Addr} {mA:Str→Option Value} {name:Str} {v:Value}
end
section
variable {P:Program} {w:World} {H H':Hp} {h h':Heap} {a C dx:Addr} {fs fs':List (Str × V)}
end
section
variable {X:Cx} {BN:List (Addr × Obj)} {σ:St} {H:Hp} {s:Shared} {a C dx:Addr} {fs:List (Str × V)} {f:Str} {v:V} {A:Around} {E:Value→Shared→Prop}
end
section
variable {X:Cx} {o e value:Expr} {f:Str} {pos pos' tpos:Pos} {ta tv:TE}
end
section
variable {X:Cx} {BN:List (Addr × Obj)} {σ:St} {H:Hp} {s:Shared} {A:Around} {E:Value→Shared→Prop} {Q:Value→Shared→Prop} {c:Value} {b:Bool}
end
structure Room (k:Nat) (A:Around):Prop where
 hd:A.handled=none
 dp:A.depth+3 * k+5<recursionLimit
 un:A.units+16 * k+200<cLine
 gd:A.guards=some []
theorem Room.mono(r:Room k A)(h:j<=k):Room j A:=⟨r.hd,by have:=r.dp;omega,by have:=r.un;omega,r.gd⟩
theorem Room.deeper(r:Room (k+1) A)(env:Env):Room k (A.deeper env) :=
 ⟨r.hd,by have:=r.dp;show A.depth+1+3 * k+5<_;omega,by have:=r.un;show A.units+3+16 * k+200<_;omega,r.gd⟩
theorem Room.depth(r:Room k A):A.depth<recursionLimit:=by have:=r.dp;omega
theorem Room.units(r:Room k A):A.units+64<cLine:=by have:=r.un;omega
def tNil:TA:=fun _ H Q=>Q [] H
def tCons(ta:TE)(tr:TA):TA:=fun σ H Q=>ta σ H fun x H1=>tr σ H1 fun xs H2=>Q (x::xs) H2
section
variable {X:Cx} {e:Expr} {es:List Expr} {te:TE} {t:TA} {pos:Pos}
theorem eE:PA X [] tNil:=fun _ _ _ _ H Q I h=>Calls.spliced_nil ⟨[],H,I,.nil,h⟩
theorem bU(ha:PE X e te)(hr:PA X es t)(hs:starEach (e::es) X.env=(false,eval e X.env)::starEach es X.env:=by rfl):PA X (e::es) (tCons te t):=by
 intro pos BN s σ H Q I h;rw[hs];show wpAny _ _ (spliced ((false,eval e X.env)::backTo pos (starEach es X.env))) _ _ s;refine Calls.spliced_cons (thn (ha BN s σ H _ I h) fun u s1 ⟨x,H1,I1,r1,q1⟩=>?_);exact thn (hr pos BN s1 σ H1 _ I1 q1) fun us s2 ⟨xs,H2,I2,r2,q2⟩=>⟨x::xs,H2,I2,.cons r1 r2,q2⟩
def tTup(t:TA):TE:=fun σ H Q=>t σ H fun xs H1=>xs.length<=sizeLine/\∀p,H1 p=none->Q (.ref p) (upd H1 p (.tup xs))
def tLst(t:TA):TE:=fun σ H Q=>t σ H fun xs H1=>xs.length<=sizeLine/\∀p,H1 p=none->Q (.ref p) (upd H1 p (.lst xs))
theorem sd{x1}(h:PA X es t):PE X (.Tuple es x1 pos) (tTup t):=by
 intro BN s σ H Q I hq;refine wpAny_Tuple_spliced (thn (h pos BN s σ H _ I hq) fun us s1 ⟨xs,H1,I1,r,z,q⟩=>⟨by rw[<-r.length];exact z,?_⟩);have hf:H1 s1.heap.objs.size=none:=I1.hok.fresh (qag _);refine⟨.ref s1.heap.objs.size,upd H1 s1.heap.objs.size (.tup xs),I1.laid (t':=s1.toks) (fun b u e=>qae _ e) (qag _) ?_,rfl,q _ hf⟩;exact⟨z,us,r,⟨_,qaz _ rfl,rfl,⟨_,rfl⟩,rfl⟩⟩
theorem pe_lst(h:PA X es t):PE X (.List es pos) (tLst t):=by
 intro BN s σ H Q I hq;refine wpAny_List_spliced (thn (h pos BN s σ H _ I hq) fun us s1 ⟨xs,H1,I1,r,z,q⟩=>⟨by rw[<-r.length];exact z,?_⟩);have hf:H1 s1.heap.objs.size=none:=I1.hok.fresh (qag _);refine⟨.ref s1.heap.objs.size,upd H1 s1.heap.objs.size (.lst xs),I1.laid (t':=s1.toks) (fun b u e=>qae _ e) (qag _) ?_,rfl,q _ hf⟩;exact⟨z,us,0,r,qaz _ rfl⟩
end
abbrev Sp:=List V->Hp->VK->XK->Prop
abbrev CXT:=List Env->Hp->Shared->XK->Value->Shared->Prop
structure Env0 (P:Program) (w:World) (K:qaa) (mg:Str->Option Value) (base:Heap) (A:Around) (outer:List Env) (s:Shared) (H:Hp):Prop where
 frames:A.frames=some outer
 mod:Mod K mg base
 bs:∀b o,base.get? b=some o->s.heap.get? b=some o/\H b=none
 bsz:base.objs.size<=s.heap.objs.size
 funs:s.heap.FunFrames base outer
 frf:∀b∈frs outer,H b=none
 hok:HOk P w H s.heap
 bare:AllBare s.gens
inductive CE (outer:List Env) (P:Program) (w:World) (H:Hp) (s:Shared) (Q:VK) (u:Value) (s':Shared):Prop
 | mk (v:V) (H':Hp) (o:s'.os=s.os) (b:AllBare s'.gens) (n:Un (frs outer) [] H H' s.heap s'.heap) (k:HOk P w H' s'.heap) (r:aK v u) (q:Q v H'):CE outer P w H s Q u s'
def CR(CX:CXT)(outer:List Env)(P:Program)(w:World)(H:Hp)(s:Shared)(Q:VK)(E:XK)(r:Result)(s':Shared):Prop :=
 match r with
 | .ok (.ret u)=>CE outer P w H s Q u s'
 | .ok _=>False
 | .error e=>CX outer H s E e s'
structure FnOk (P:Program) (w:World) (K:qaa) (mg:Str->Option Value) (base:Heap) (CX:CXT) (k:Nat) (f:Addr) (fd:FuncData) (ps:List Str) (sp:Sp):Prop where
 len:∀vs H Q E,sp vs H Q E->vs.length=ps.length
 run:∀(A:Around) (outer:List Env) (s:Shared) (H:Hp) (args:Args) (us:List Value) (vs:List V) (Q:VK) (E:XK),Room k A->Env0 P w K mg base A outer s H->BindsTo s fd args (ps.zip us)->ar vs us->sp vs H Q E ->
  codeAny (model P w) A (.call (.ref f) args) (CR CX outer P w H s Q E) s
theorem FnOk.mono{P:Program}{w:World}{K:qaa}{mg:Str->Option Value}{base:Heap}{CX:CXT}{j k:Nat}{f:Addr}{fd:FuncData}{ps:List Str}{sp:Sp}(F:FnOk P w K mg base CX j f fd ps sp)(h:j<=k) :
  FnOk P w K mg base CX k f fd ps sp:=⟨F.len,fun A outer s H args us vs Q E hr=>F.run A outer s H args us vs Q E (hr.mono h)⟩
theorem FnOk.imp{P:Program}{w:World}{K:qaa}{mg:Str->Option Value}{base:Heap}{CX:CXT}{k:Nat}{f:Addr}{fd:FuncData}{ps:List Str}{sp sp':Sp}(F:FnOk P w K mg base CX k f fd ps sp)
  (h:∀vs H Q E,sp' vs H Q E->sp vs H Q E):FnOk P w K mg base CX k f fd ps sp' :=
 ⟨fun vs H Q E q=>F.len vs H Q E (h _ _ _ _ q),fun A outer s H args us vs Q E hr he hb hv hs=>F.run A outer s H args us vs Q E hr he hb hv (h _ _ _ _ hs)⟩
section
variable {X:Cx} {BN:List (Addr × Obj)} {σ:St} {H:Hp} {s s':Shared}
theorem Inv.env0(I:Inv X BN σ H s):Env0 X.prog X.w X.K X.mg X.base X.A X.stack s H :=
 ⟨I.ok.frames,I.ok.mod,I.bs,qaA I.ok.bsz I.sz,I.stack,I.stkFree,I.hok,I.bare⟩
theorem Inv.after(I:Inv X BN σ H s)(h:CE X.stack X.prog X.w H s Q u s'):EP X BN σ Q u s':=by
 obtain⟨v,H',os,bare,un,hok,r,q⟩:=h;obtain⟨hh,g,d,t,os'⟩:=s';obtain rfl:os'=s.os:=os;exact⟨v,H',I.call (h':=hh) (g':=g) (d':=d) (t':=t) (ch:=[]) un hok bare (fun b z=>absurd z (by simp)),r,q⟩
end
def jl(K:qaa)(fd:FuncData)(ps:List Str)(ds:List Value):Prop :=
 ∀(s:Shared) (us:List Value),K.In s.heap->(us++ds).length=ps.length->BindsTo s fd ⟨us,[]⟩ (ps.zip (us++ds))
theorem jl.all{K:qaa}{fd:FuncData}{ps:List Str}(h:∀us:List Value,us.length=ps.length->bindArgs fd ⟨us,[]⟩=pure (ps.zip us)):jl K fd ps []:=fun s us _ hl=>by
 rw[qbJ] at hl ⊢;exact .of_eq (h us hl)
section
variable {X:Cx} {CX:CXT} {k:Nat} {f C:Addr} {fd:FuncData} {ps:List Str} {sp:Sp} {dvs:List V} {ds:List Value} {E:XK} {x m:Str} {p pos apos:Pos} {e o:Expr} {es:List Expr} {ta:TE} {t:TA}
end
section
variable {X:Cx} {CX:CXT} {k:Nat} {f C:Addr} {fd:FuncData} {ps ks:List Str} {sp:Sp} {E:XK} {x m:Str} {p pos apos kpos:Pos} {e o:Expr} {es:List Expr} {kws:List Keyword} {te ta:TE} {t tk:TA} {nm:Option Str}
variable {g:List Value→List Value→List Value} {gV:List V→List V→List V}
end
structure FnScope (N P:List Str) (sc:Scope):Prop where
 kind:sc.kind=.function
 co:sc.isCoroutine=false
 gen:sc.isGenerator=false
 nd:N.Nodup
 pre:N.take P.length=P
 par:∀x∈P,sc.names.lookup x=some .local\/sc.names.lookup x=some .cell
 nofree:∀y∈sc.names,y.2≠.free
theorem lx{kindOf:Str->Option NameKind}{x:Str}:∀{binds:List (Str × Value)} {m:Str->Option Value},(∀v,(x,v)∉binds)->bindL kindOf binds m x=m x
 | [],_,_=>rfl
 | (n,v)::r,m,h=>by
  unfold bindL;rw[lx fun w hw=>h w (qak _ hw)];split
  ·have:x≠n:=by rintro rfl;exact h v qaH
   simp[this]
  ·rfl
theorem lB{kindOf:Str->Option NameKind}{x:Str}:∀{binds:List (Str × Value)} {m:Str->Option Value},(∀v,(x,v)∉binds)->bindC kindOf binds m x=m x
 | [],_,_=>rfl
 | (n,v)::r,m,h=>by
  unfold bindC;rw[lB fun w hw=>h w (qak _ hw)];split
  ·rfl
  ·have:x≠n:=by rintro rfl;exact h v qaH
   simp[this]
theorem k8{kindOf:Str->Option NameKind}{x:Str}{v:Value}:∀{P:List Str} {vs:List Value} {i:Nat} {m:Str->Option Value},P.Nodup->P[i]?=some x->vs[i]?=some v->kindOf x=some .local ->
  bindL kindOf (P.zip vs) m x=some v
 | [],_,_,_,_,h,_,_=>by simp at h
 | _::_,[],_,_,_,_,h,_=>by simp at h
 | p::P,w::vs,0,m,nd,h1,h2,hk=>by
  simp at h1 h2;subst h1;subst h2;show bindL kindOf ((p,w)::P.zip vs) m p=_;unfold bindL;rw[lx fun v hv=>(qca.mp nd).1 (qcp hv).1,qaf hk];simp
 | p::P,w::vs,i+1,m,nd,h1,h2,hk=>by
  show bindL kindOf ((p,w)::P.zip vs) m x=_;unfold bindL;exact k8 (i:=i) (qca.mp nd).2 (by simpa using h1) (by simpa using h2) hk
theorem ll{kindOf:Str->Option NameKind}{x:Str}{v:Value}:∀{P:List Str} {vs:List Value} {i:Nat} {m:Str->Option Value},P.Nodup->P[i]?=some x->vs[i]?=some v->kindOf x≠some .local ->
  bindC kindOf (P.zip vs) m x=some v
 | [],_,_,_,_,h,_,_=>by simp at h
 | _::_,[],_,_,_,_,h,_=>by simp at h
 | p::P,w::vs,0,m,nd,h1,h2,hk=>by
  simp at h1 h2;subst h1;subst h2;show bindC kindOf ((p,w)::P.zip vs) m p=_;unfold bindC;rw[lB fun v hv=>(qca.mp nd).1 (qcp hv).1,qai hk];simp
 | p::P,w::vs,i+1,m,nd,h1,h2,hk=>by
  show bindC kindOf ((p,w)::P.zip vs) m x=_;unfold bindC;exact ll (i:=i) (qca.mp nd).2 (by simpa using h1) (by simpa using h2) hk
def start(N:List Str)(vs:List V):St:=vs.map some++List.replicate (N.length - vs.length) none
def nJ(CX:CXT)(P:Program)(w:World)(K:qaa)(mg:Str->Option Value)(base:Heap)(N:List Str)(qual:Str)(scope:Scope)(f:Addr)(cd:Value)(A:Around)(outer:List Env)(s:Shared)(H:Hp)(E:XK):Cx where
 prog:=P
 w:=w
 K:=K
 mg:=mg
 base:=base
 A:=A.deeper (envOfC qual scope s.heap.objs.size f cd)
 N:=N
 s₀:=s
 H₀:=H
 env:=envOfC qual scope s.heap.objs.size f cd
 outer:=outer
 stack:=envOfC qual scope s.heap.objs.size f cd::outer
 ex:=[]
 calm:=true
 fn:=fun _=>true
 pn:=[]
 xe:=fun e s'=>wpAny (model P w) (A.deeper (envOfC qual scope s.heap.objs.size f cd)) (leaving (envOfC qual scope s.heap.objs.size f cd) e) (fun _ s''=>CX outer H s E e s'') (fun e' s''=>CX outer H s E e' s'') s'
theorem mD{sc:Scope}{n:Nat}{x:Str}(h:sc.names.lookup x=some .cell):∃c,(cellsFrom n sc.names []).lookup x=some c:=by
 have q:=PySem.W.cellsFrom_some sc.names n [] (.inl h);exact Option.isSome_iff_exists.mp q
theorem sW{CX:CXT}{P:Program}{w:World}{K:qaa}{mg:Str->Option Value}{base:Heap}{N ps:List Str}{qual:Str}{scope:Scope}{f:Addr}{cd:Value}{A:Around}{outer:List Env}{s s1:Shared}{H:Hp}{E:XK}{us:List Value}{vs:List V}
  (S:FnScope N ps scope) (hd:A.handled=none) (e0:Env0 P w K mg base A outer s H) (hl:vs.length=ps.length) (r:ar vs us)
  (x:InCallC s s.heap.objs.size (bindL (envOfC qual scope s.heap.objs.size f cd).kindOf (ps.zip us) fun _=>none) (cellsFrom (s.heap.objs.size+1) scope.names []) (bindC (envOfC qual scope s.heap.objs.size f cd).kindOf (ps.zip us) fun _=>none) s1) :
  Inv (nJ CX P w K mg base N qual scope f cd A outer s H E) [] (start N vs) H s1:=by
 have hpl:ps.length<=N.length:=by have:=congrArg List.length S.pre;rw[qbt] at this;omega
 obtain⟨h1,tk,rfl,hk⟩:=x.done;have noA:∀b:Addr,b∉(nJ CX P w K mg base N qual scope f cd A outer s H E).ex:=fun b z=>absurd (show b∈([]:List Addr) from z) (by simp)
 refine⟨⟨e0.mod,S.kind,rfl,rfl,qag _,fun y z c h1 h2=>?_,fun y hy=>?_,fun y c _ h=>?_,fun _=>hd,Around.frames_deeper e0.frames,.inr ⟨rfl,rfl⟩,fun b z=>absurd z (noA b),e0.bs,e0.bsz,fun b _ _=>noA b,fun b z=>absurd z (noA b),e0.funs,e0.frf⟩,
  rfl,e0.bare,Un.kept hk,⟨_,x.toInCall.ns,fun i y v h1 h2 h3=>?_⟩,fun y c h=>⟨_,x.cell y c h⟩,e0.hok.fresh (qag _),fun y c h=>?_,fun p hp=>absurd (show p∈([]:List (Addr × Obj)) from hp) (by simp),e0.hok.kept hk,?_⟩
 ·exact name_of_addr x.apart (PySem.mem_of_lookup h1) (PySem.mem_of_lookup h2)
 ·have hy:scope.names.lookup y=some .cell\/scope.names.lookup y=some .free:=hy;rcases hy with hy|hy
  ·exact mD hy
  ·exact absurd rfl (S.nofree _ (PySem.mem_of_lookup hy))
 ·exact qbF (x.above y c (PySem.mem_of_lookup h))
 ·have hi:i<vs.length:=by
   unfold start at h2;by_cases hi:i<vs.length
   ·exact hi
   ·rw[qau (by simpa using hi)] at h2;rw[qbc] at h2
    split at h2 <;> cases h2
  have ha:vs[i]?=some v:=by
   unfold start at h2;rw[qaj (by simpa using hi),qax] at h2
   cases e:vs[i]? with
   | none=>rw[e] at h2;cases h2
   | some a=>rw[e] at h2;cases h2;rfl
  obtain⟨u,hu,rv⟩:=r.get ha;have hp:ps[i]?=some y:=by
   rw[<-S.pre,qbG (by omega)];exact h1
  have ndP:ps.Nodup:=by rw[<-S.pre];exact S.nd.sublist (List.take_sublist _ _)
  refine⟨u,rv,?_⟩;rcases S.par y (qaV hp) with k|k
  ·exact .inl ⟨k,k8 ndP hp hu k⟩
  ·obtain⟨c,e⟩:=mD (n:=s.heap.objs.size+1) k;refine .inr ⟨.inl k,c,e,?_⟩;have q:=x.cell y c e;rw[ll ndP hp hu (by show scope.names.lookup y≠_;rw[k];decide)] at q;exact q
 ·exact e0.hok.fresh (qbF (x.above y c (PySem.mem_of_lookup h)))
 ·unfold start;show _=N.length;rw[qaN,qaC,qbk];omega
theorem fn_of{CX:CXT}{P:Program}{w:World}{K:qaa}{mg:Str->Option Value}{base:Heap}{k:Nat}{f:Addr}{name qual:Str}{params:Arguments}{body:List Stmt}{scope:Scope}{dV kV doc pm cdv ct oc:Value}{an od:Option Addr}
  {osl:Array (Option Value)} {N ps:List Str} {sp:Sp} (lk:K.lookup f=some ⟨oc,od,.func (PySem.W.fnOf name qual params body scope dV kV doc pm an cdv ct),osl⟩) (hcd:PySem.W.codeIn K cdv qual=true) (S:FnScope N ps scope)
  (len:∀vs H Q E,sp vs H Q E->vs.length=ps.length)
  (hbody:∀(A:Around) (outer:List Env) (s:Shared) (H:Hp) (vs:List V) (Q:VK) (E:XK),Room k (A.deeper (envOfC qual scope s.heap.objs.size f cdv))->sp vs H Q E ->
   ∃t,PSs (nJ CX P w K mg base N qual scope f cdv A outer s H E) body t/\t { nx:=fun _ H'=>Q .non H',rt:=Q} (start N vs) H) :
  FnOk P w K mg base CX (k+1) f (PySem.W.fnOf name qual params body scope dV kV doc pm an cdv ct) ps sp:=by
 refine⟨len,fun A outer s H args us vs Q E hr e0 hb r hsp=>?_⟩;have hl:=len _ _ _ _ hsp;have KX:K.In s.heap:=e0.mod.kin.keeps fun b o e=>(e0.bs b o e).1;have lim:s.heap.NoLimit:=e0.mod.nolimit.keeps fun b o e=>(e0.bs b o e).1;have hkind:∀y∈ps.zip us,scope.names.lookup y.1=some .local\/(scope.names.lookup y.1=some .cell/\((cellsFrom (s.heap.objs.size+1) scope.names []).lookup y.1).isSome=true):=fun ⟨n,v⟩ hy=>by
  rcases S.par n (qcp hy).1 with q|q
  ·exact .inl q
  ·exact .inr ⟨q,PySem.W.cellsFrom_some _ _ _ (.inl q)⟩
 refine codeAny_call_function hr.depth (KX _ _ lk) rfl S.co S.gen rfl (PySem.W.codeRec_of KX hcd) (hb _ _ _ _ ?_);refine wpAny_newFunctionEnv_cells S.kind hkind fun env he s1 x=>?_;subst he;refine⟨lim.keeps x.toInCall.keep,codeAny_func ?_⟩;obtain⟨t,ht,hq⟩:=hbody A outer s H vs Q E (hr.deeper _) hsp;have I:Inv (nJ CX P w K mg base N qual scope f cdv A outer s H E) [] (start N vs) H s1:=sW S hr.hd e0 hl r x;refine wpAny_mono (ht [] s1 (start N vs) H _ I hq) (fun fl s' hs=>?_) fun e s' hs=>hs;have fin:∀{σ':St} {H':Hp} {v:V} {u:Value},Inv (nJ CX P w K mg base N qual scope f cdv A outer s H E) [] σ' H' s'->aK v u->Q v H'->CE outer P w H s Q u s' :=
  fun {σ' H' v u} J rv q=>⟨v,H',J.os,J.bare,J.base,J.hok,rv,q⟩
 cases fl with
 | ret u =>
  obtain⟨v,σ',H',J,rv,q⟩:=hs;exact fin J rv q
 | next =>
  obtain⟨σ',H',J,q⟩:=hs;exact fin (v:=V.non) (u:=Value.none) J rfl q
 | brk =>
  obtain⟨_,_,_,q⟩:=hs;exact False.elim q
 | cont =>
  obtain⟨_,_,_,q⟩:=hs;exact False.elim q
section
variable {X:Cx} {x:Str} {p pos:Pos} {e:Expr} {es:List Expr} {t:TA} {id T:String} {r:List V→Hp→VK→Prop}
def tCB(r:List V->Hp->VK->Prop)(t:TA):TE:=fun σ H Q=>t σ H fun vs H1=>r vs H1 Q
theorem eG(hc:bK X (.builtin id) r)(hg:Gl X x)(hm:X.mg x=none)(hv:bootBuiltins x=some (.builtin id))(ha:PA X (e::es) t)(hn:x≠"__name__":=by decide)(hdb:(x == ("__debug__":Str))=false:=by decide)
  (he:starEach (e::es) X.env=(false,eval e X.env)::starEach es X.env:=by rfl) (hpl:(backTo pos (starEach es X.env)).any (·.1)=false:=by rfl):PE X (.Call (.Name x p) (e::es) [] pos) (tCB r t):=by
 intro BN s σ H Q I h;refine wpAny_Call_Name_kw (fB I hg hm hv ?_ hn hdb);exact PyProof.Rows.callWith_builtin1 (thn (ha pos BN s σ H _ I h) fun us s1 ⟨vs,H1,I1,r1,q1⟩=>hc BN s1 σ H1 vs us Q I1 r1 q1) he hpl
theorem lc(hc:bK X (.type T) r)(hg:Gl X x)(hm:X.mg x=none)(hv:bootBuiltins x=some (.type T))(ha:PA X (e::es) t)(hn:x≠"__name__":=by decide)(hdb:(x == ("__debug__":Str))=false:=by decide)
  (he:starEach (e::es) X.env=(false,eval e X.env)::starEach es X.env:=by rfl) (hpl:(backTo pos (starEach es X.env)).any (·.1)=false:=by rfl):PE X (.Call (.Name x p) (e::es) [] pos) (tCB r t):=by
 intro BN s σ H Q I h;refine wpAny_Call_Name_kw (fB I hg hm hv ?_ hn hdb);exact PyProof.Rows.callWith_type1 (thn (ha pos BN s σ H _ I h) fun us s1 ⟨vs,H1,I1,r1,q1⟩=>hc BN s1 σ H1 vs us Q I1 r1 q1) he hpl
end
end L2
namespace HT
open PySem PyProof.Rows
section
open PySem.SeqAt
open PySem.AutoSeq1 (wpAny_loadPart')
open PySem.MeetsSeq PySem.MeetsSeq2 PySem.MeetsSeq3
end
section
variable {prog:Program} {w:World} {A:Around} {E:Value→Shared→Prop} {s:Shared}
theorem cat_tup(ht:IsTup s.heap t vs.toArray)(hb:IsTup s.heap b ws.toArray)(hv:vs≠[])
  (h1:ws=[]->Q (.ref t) s) (h2:ws≠[]->Q (.ref s.heap.objs.size) { s with heap:=s.heap.push { cls:=.type "tuple",data:=.seq (vs++ws).toArray}})
  (hsz:vs.length+ws.length<=sizeLine):wpAny (model prog w) A (binaryOp .Add (.ref t) (.ref b)) Q E s:=by
 obtain⟨⟨cls,dd,data,sl⟩,ho,hc,n,hd⟩:=id ht;obtain⟨⟨cls2,dd2,data2,sl2⟩,ho2,hc2,n2,hd2⟩:=id hb;simp only at hc hd hc2 hd2;subst hc hd hc2 hd2;have e:vs.toArray++ws.toArray=(vs++ws).toArray:=by simp
 by_cases hw:ws=[]
 ·exact concat_meets ⟨_,ho,rfl⟩ ⟨_,ho2,rfl⟩ noFill_tuple_add seq_tuple_add PySem.F.slot_tuple_add PySem.F.entry_tuple_add (PySem.F.args_tuple_add_2 _ _)
   (tuple_addW1 t b vs.toArray ws.toArray n n2 dd dd2 sl sl2 (by simpa using hv) (by simp[hw])) ⟨ho,ho2,h1 hw⟩
 ·refine concat_meets ⟨_,ho,rfl⟩ ⟨_,ho2,rfl⟩ noFill_tuple_add seq_tuple_add PySem.F.slot_tuple_add PySem.F.entry_tuple_add (PySem.F.args_tuple_add_2 _ _)
   (tuple_addW2 t b vs.toArray ws.toArray n n2 dd dd2 sl sl2 (by simpa using hv) (by simpa using hw) (by rw[qal,qal];exact hsz)) ⟨ho,ho2,?_⟩
  rw[e];exact h2 hw
def sIx(n d:Nat):Option Int->Nat
 | none=>d
 | some v=>if v<0 then (v+(n:Int)).toNat else min v.toNat n
theorem i8(n d:Nat):sIx n d none=d:=rfl
theorem kM(n d k:Nat):sIx n d (some (k:Int))=min k n:=by
 show (if (k:Int)<0 then ((k:Int)+(n:Int)).toNat else min (k:Int).toNat n)=min k n;rw[qai (by omega),qaT]
theorem sIx_le(n d:Nat)(hd:d<=n)(o:Option Int):sIx n d o<=n:=by
 cases o with
 | none=>exact hd
 | some v =>
  show (if v<0 then (v+(n:Int)).toNat else min v.toNat n)<=n;by_cases hv:v<0
  ·rw[qaf hv];omega
  ·rw[qai hv];exact Nat.min_le_right _ _
theorem pH(v:Int)(n d:Nat):(if v<0 then max (v+(n:Int)) 0 else min v (n:Int))=((sIx n d (some v):Nat):Int):=by
 show (if v<0 then max (v+(n:Int)) 0 else min v (n:Int))=(((if v<0 then (v+(n:Int)).toNat else min v.toNat n):Nat):Int);by_cases hv:v<0
 ·simp only[qaf hv];omega
 ·simp only[qai hv];omega
theorem qK(lo hi:Option Int)(n:Nat):Builtin.Slice.sliceAdjust lo hi 1 (n:Int)=(((sIx n 0 lo:Nat):Int),((sIx n n hi:Nat):Int)):=by
 have h1:¬((1:Int)<0):=by omega
 unfold Builtin.Slice.sliceAdjust;simp only[h1,if_false];refine Prod.ext ?_ ?_
 ·cases lo with
  | none=>rfl
  | some v=>exact pH v n 0
 ·cases hi with
  | none=>rfl
  | some v=>exact pH v n n
theorem qG(i j:Nat):Builtin.Slice.slicePlaces (i:Int) (j:Int) 1=j - i:=by
 unfold Builtin.Slice.slicePlaces;have h1:(1:Int)>0:=by omega
 simp only[h1,if_true,Int.ediv_one]
 split <;> omega
theorem jO(p:IsPart v o)(h:Q o s):wpAny (model prog w) A (Builtin.Slice.slicePartIndex v) Q E s:=by
 cases p with
 | none=>exact slicePart_none h
 | int i t=>exact slicePart_int h
theorem iS{sl:Addr}{vl vu:Value}{lo hi:Option Int}{n:Nat}{Q:Int × Int × Nat->Shared->Prop}(hs:s.heap.IsSliceOf sl vl vu .none)(pl:IsPart vl lo)(pu:IsPart vu hi)
  (h:Q (((sIx n 0 lo:Nat):Int),1,sIx n n hi - sIx n 0 lo) s):wpAny (model prog w) A (Builtin.Slice.sliceApplied (.ref sl) (pure (n:Int))) Q E s:=by
 obtain⟨os,hos,hcs,hds⟩:=id hs;unfold Builtin.Slice.sliceApplied Builtin.Slice.sliceFields;refine qah (qah (wpAny_field hos hds (x:=vl) rfl (qah (wpAny_field hos hds (x:=vu) rfl (qah (wpAny_field hos hds (x:=.none) rfl (qaw ?_)))))));refine qah (slicePart_none ?_);show wpAny _ _ (if ((1:Int) == 0)=true then _ else _) _ _ s;rw[qai (by decide)];refine qah (jO pl (qah (jO pu (qah (qaw ?_)))));show wpAny _ _ (match Builtin.Slice.sliceAdjust lo hi 1 (n:Int) with | (lo,hi)=>pure (lo,(1:Int),Builtin.Slice.slicePlaces lo hi 1)) _ _ s;rw[qK lo hi n];show wpAny _ _ (pure (((sIx n 0 lo:Nat):Int),(1:Int),Builtin.Slice.slicePlaces ((sIx n 0 lo:Nat):Int) ((sIx n n hi:Nat):Int) 1)) _ _ s;rw[qG];exact qaw h
theorem uw(xs:Array Value)(i k:Nat):((List.range k).filterMap fun (m:Nat)=>xs[((i:Int)+(m:Int) * 1).toNat]?).toArray=((xs.toList.drop i).take k).toArray:=by
 have e:(fun (m:Nat)=>xs[((i:Int)+(m:Int) * 1).toNat]?)=fun m=>xs[i+m]?:=by
  funext m
  have:((i:Int)+(m:Int) * 1).toNat=i+m:=by omega
  rw[this]
 rw[e]
 have:=pick_run xs i k
 rw[List.filterMap_map] at this;have e2:((fun x=>xs[x]?)∘fun x=>i+x)=fun m=>xs[i+m]?:=rfl;rw[e2] at this;rw[this]
theorem iH{t sl:Addr}{items:Array Value}{vl vu:Value}{lo hi:Option Int}{Q:Value->Shared->Prop}(ht:IsTup s.heap t items)(hs:s.heap.IsSliceOf sl vl vu .none)(pl:IsPart vl lo)(pu:IsPart vu hi)
  (hw:¬(sIx items.size 0 lo=0/\sIx items.size items.size hi=items.size))
  (h:Q (.ref s.heap.objs.size) { s with heap:=s.heap.push { cls:=.type "tuple",data:=.seq ((items.toList.drop (sIx items.size 0 lo)).take (sIx items.size items.size hi - sIx items.size 0 lo)).toArray}})
  (hsz:items.size<=sizeLine):wpAny (model prog w) A (getItem (.ref t) (.ref sl)) Q E s:=by
 have htake:sizeOk (.seq ((items.toList.drop (sIx items.size 0 lo)).take (sIx items.size items.size hi - sIx items.size 0 lo)).toArray):=by
  show ((items.toList.drop (sIx items.size 0 lo)).take (sIx items.size items.size hi - sIx items.size 0 lo)).toArray.size<=sizeLine;rw[qal,qbt,qbS,qaR];omega
 have hj:sIx items.size items.size hi<=items.size:=sIx_le _ _ (qag _) hi;obtain⟨os,hos,hcs,hds⟩:=id hs;have hTs:s.TypeIs (.ref sl) "slice":=⟨os,hos,hcs⟩;unfold getItem
 try with_reducible refine wpAny_holding ?_
 first | refine qah (qaw ?_) | skip
 refine qah (wpAny_sequenceKey ht.typeIs (by decide) ?_)
 refine qah (wpAny_callSpecial?_slot (name:=Str.ofString "__getitem__") ht.typeIs PyProof.Rows.slot_tuple_getitem
  (wpAny_call_entry PyProof.Rows.slot_tuple_getitem ht.typeIs entry_tuple_getitem ?_ (args_tuple_getitem _ _)))
 show wpAny _ _ (Builtin.Tuple.tupleItemsOf (.ref t) >>= _) _ _ s;refine qah (tupleItemsOf_ ht ?_);refine qah (wpAny_typeOf hTs ?_);rw[qaf (by decide)];refine qah (iS hs pl pu ?_);have hno:¬((((sIx items.size 0 lo:Nat):Int) == 0 && (1:Int) == 1 && (sIx items.size items.size hi - sIx items.size 0 lo) == items.size)=true):=by
  intro q;rw[qbC,qbC] at q;have q1:((sIx items.size 0 lo:Nat):Int)=0:=eq_of_beq q.1.1;have q2:sIx items.size items.size hi - sIx items.size 0 lo=items.size:=eq_of_beq q.2;exact hw ⟨by omega,by omega⟩
 show wpAny _ _ (if (((sIx items.size 0 lo:Nat):Int) == 0 && (1:Int) == 1 && (sIx items.size items.size hi - sIx items.size 0 lo) == items.size)=true then _ else _) _ _ s;rw[qai hno,uw]
 first
  | exact qah (m:=Builtin.Tuple.tupleExact _) (wpAny_newObj_type (qaw ⟨_,rfl,qaw h⟩) htake)
  | exact qah (m:=Builtin.Tuple.tupleExact _) (wpAny_newObj_type (qah (qaw (qaw ⟨_,rfl,qaw h⟩))) htake)
  | exact qah (qah (m:=Builtin.Tuple.tupleExact _) (wpAny_newObj_type (qaw (qaw ⟨_,rfl,qaw h⟩)) htake))
  | exact qah (qah (m:=Builtin.Tuple.tupleExact _) (wpAny_newObj_type (qaw ⟨_,rfl,qaw h⟩) htake))
end
end HT
namespace L2
open PySem PySem.Spec PyProof.Rows
abbrev TO:=St->Hp->(Option Int->Hp->Prop)->Prop
def PO(X:Cx)(e:Option Expr)(t:TO):Prop :=
 ∀(BN:List (Addr × Obj)) (s:Shared) (σ:St) (H:Hp) (Q:Option Int->Hp->Prop),Inv X BN σ H s->t σ H Q ->
  wpAny (model X.prog X.w) X.A (evalPart e X.env) (fun u s'=>∃o H',Inv X BN σ H' s'/\IsPart u o/\Q o H') X.xe s
def tNoPart:TO:=fun _ H Q=>Q none H
def tPart(t:TE):TO:=fun σ H Q=>t σ H fun x H1=>∃i,x=.int i/\Q (some i) H1
section
variable {X:Cx} {e:Expr} {te:TE} {lo hi:Option Expr} {tl th:TO} {pos p2:Pos}
theorem po_none:PO X none tNoPart:=by
 intro BN s σ H Q I h;rw[evalPart_none];exact qaw ⟨none,H,I,.none,h⟩
theorem po_some(h:PE X e te):PO X (some e) (tPart te):=by
 intro BN s σ H Q I hw;rw[evalPart_some];refine thn (h BN s σ H _ I hw) fun u s1 ⟨x,H1,I1,r1,q1⟩=>?_;obtain⟨i,rfl,q⟩:=q1;obtain⟨t,rfl⟩:=r1;exact⟨some i,H1,I1,.int i t,q⟩
def SlR(X:Cx)(r:V->Option Int->Option Int->Hp->VK->Prop):Prop :=
 ∀(BN:List (Addr × Obj)) (s:Shared) (σ:St) (H:Hp) (x:V) (v vl vu:Value) (lo hi:Option Int) (sl:Addr) (Q:VK),Inv X BN σ H s->aK x v->s.heap.IsSliceOf sl vl vu .none->IsPart vl lo->IsPart vu hi->r x lo hi H Q ->
  ∃T id,typeLookup (.type T) "__getitem__"=pure (some (.builtin id))/\s.TypeIs v T/\wpAny (model X.prog X.w) X.A (getItem v (.ref sl)) (EP X BN σ Q) X.xe s
def tSl(r:V->Option Int->Option Int->Hp->VK->Prop)(te:TE)(tl th:TO):TE:=fun σ H Q=>te σ H fun x H1=>tl σ H1 fun l H2=>th σ H2 fun u H3=>r x l u H3 Q
theorem tL(hr:SlR X r)(he:PE X e te)(hl:PO X lo tl)(hu:PO X hi th):PE X (.Subscript e (.Slice lo hi none p2) pos) (tSl r te tl th):=by
 intro BN s σ H Q I h;refine Subscript_ (thn (he BN s σ H _ I h) fun v s1 ⟨x,H1,I1,r1,q1⟩=>?_);refine wpAny_Slice (thn (hl BN s1 σ H1 _ I1 q1) fun vl s2 ⟨l,H2,I2,pl,q2⟩=>thn (hu BN s2 σ H2 _ I2 q2) fun vu s3 ⟨u,H3,I3,pu,q3⟩=>?_);rw[evalPart_none];refine qaw ?_;have I4:Inv X BN σ H3 { s3 with heap:=s3.heap.push { cls:=.type "slice",data:=.fields #[vl,vu,.none]}}:=I3.kept (t':=s3.toks) fun b ob q=>qae _ q;obtain⟨T,id,hT,ht,hg⟩:=hr BN { s3 with heap:=s3.heap.push { cls:=.type "slice",data:=.fields #[vl,vu,.none]}} σ H3 x v vl vu l u s3.heap.objs.size Q I4 r1 (Heap.IsSliceOf.new ..) pl pu q3;show wpAny (model X.prog X.w) X.A (subscriptTail e (.Slice lo hi none p2) v (.ref s3.heap.objs.size)) (EP X BN σ Q) X.xe { s3 with heap:=s3.heap.push { cls:=.type "slice",data:=.fields #[vl,vu,.none]}};exact tail_any (ops:=[.ref s3.heap.objs.size,v]) ht hT hg (by with_unfolding_all rfl)
def eN(xs:List V)(lo hi:Option Int):List V:=(xs.drop (HT.sIx xs.length 0 lo)).take (HT.sIx xs.length xs.length hi - HT.sIx xs.length 0 lo)
theorem iN(xs:List V)(lo hi:Option Int):(eN xs lo hi).length<=xs.length:=by
 unfold eN;rw[qbt,qbS];omega
def rSlT(K:qaa):V->Option Int->Option Int->Hp->VK->Prop:=fun x lo hi H Q=>∃a xs,x=.ref a/\SqT K H a xs /\
 ¬(HT.sIx xs.length 0 lo=0/\HT.sIx xs.length xs.length hi=xs.length)/\∀p,H p=none->Q (.ref p) (upd H p (.tup (eN xs lo hi)))
theorem sl_tup:SlR X (rSlT X.K):=by
 intro BN s σ H x v vl vu lo hi sl Q I rx hs pl pu h;obtain⟨a,xs,rfl,hx,hw,q⟩:=h;cases rx;obtain⟨its,r,ht,hz⟩:=I.tuple hx;have hlen:its.toArray.size=xs.length:=by rw[qal];exact r.length.symm
 refine⟨"tuple",_,PyProof.Rows.slot_tuple_getitem.lookup,ht.typeIs,?_⟩;refine HT.iH ht hs pl pu (by rw[hlen];exact hw) ?_ (by rw[hlen];exact hz);rw[hlen];refine⟨.ref s.heap.objs.size,_,I.laid (t':=s.toks) (o:=.tup (eN xs lo hi)) (fun b ob q=>qae _ q) (qag _) ?_,rfl,q _ (I.hok.fresh (qag _))⟩;exact⟨qaA (iN xs lo hi) hz,_,(r.drop (HT.sIx xs.length 0 lo)).take (HT.sIx xs.length xs.length hi - HT.sIx xs.length 0 lo),eA.new _ _⟩
def rCatT(K:qaa):R2:=fun x y H Q=>∃a b xs ys,x=.ref a/\y=.ref b/\SqT K H a xs/\SqT K H b ys/\xs≠[]/\xs.length+ys.length<=sizeLine /\
 (ys=[]->Q (.ref a) H)/\(ys≠[]->∀p,H p=none->Q (.ref p) (upd H p (.tup (xs++ys))))
theorem ar.nil_iff(r:ar xs us):us=[]↔xs=[]:=by
 cases r with
 | nil=>simp
 | cons _ _=>simp
theorem op_catT:OpR X (binaryOp .Add) (rCatT X.K):=by
 intro BN s σ H x y v u Q I rx ry h;obtain⟨a,b,xs,ys,rfl,rfl,ha,hb,hx,hz,q1,q2⟩:=h;cases rx;cases ry;obtain⟨its,r1,p1,_⟩:=I.tuple ha;obtain⟨its2,r2,p2,_⟩:=I.tuple hb;refine HT.cat_tup p1 p2 (fun z=>hx (r1.nil_iff.mp z)) (fun z=>⟨.ref a,H,I,rfl,q1 (r2.nil_iff.mp z)⟩) (fun z=>?_) (by rw[<-r1.length,<-r2.length];exact hz);refine⟨.ref s.heap.objs.size,_,I.laid (t':=s.toks) (o:=.tup (xs++ys)) (fun b ob q=>qae _ q) (qag _) ?_,rfl,q2 (fun w=>z (r2.nil_iff.mpr w)) _ (I.hok.fresh (qag _))⟩;exact⟨by rw[qaN];exact hz,_,r1.append r2,eA.new _ _⟩
end
def ixN(n:Nat)(i:Int):Option Nat:=if 0<=i then (if i<n then some i.toNat else none) else if -(n:Int)<=i then some (i+n).toNat else none
def atI{α:Type}(xs:List α)(i:Int):Option α:=(ixN xs.length i).bind fun j=>xs[j]?
theorem pC(h:ixN n i=some j):seqIndex? i n=some j/\j<n /\ -(n:Int)<=i/\i<n:=by
 unfold ixN at h;by_cases h0:0<=i
 ·rw[qaf h0] at h;by_cases h1:i<n
  ·rw[qaf h1] at h;have e:i.toNat=j:=Option.some.inj h;exact⟨by rw[seqIndex_of h0 h1,e],by omega,by omega,h1⟩
  ·rw[qai h1] at h;cases h
 ·rw[qai h0] at h;by_cases h1:-(n:Int)<=i
  ·rw[qaf h1] at h;have e:(i+n).toNat=j:=Option.some.inj h;exact⟨by rw[seqIndex_neg (by omega) h1,e],by omega,h1,by omega⟩
  ·rw[qai h1] at h;cases h
theorem j6(h:atI xs i=some v):∃j,seqIndex? i xs.length=some j/\xs[j]?=some v/\j<xs.length /\ -(xs.length:Int)<=i/\i<xs.length:=by
 unfold atI at h
 cases e:ixN xs.length i with
 | none=>rw[e] at h;cases h
 | some j =>
  rw[e] at h;obtain⟨h1,h2,h3,h4⟩:=pC e;exact⟨j,h1,h,h2,h3,h4⟩
theorem bT{α:Type}{xs:List α}{j:Nat}{v:α}(h:xs[j]?=some v):atI xs (j:Int)=some v:=by
 have hj:j<xs.length:=(qab.mp h).1;have e:ixN xs.length (j:Int)=some j:=by
  unfold ixN;rw[qaf (by omega),qaf (by omega)];simp
 unfold atI;rw[e];exact h
def kA(b:Expr):Prop:=∀o i,subscripted b false o i=operate [o,i] (getItem o i)
def IxR(X:Cx)(r:R2):Prop :=
 ∀(value slice:Expr) (BN:List (Addr × Obj)) (s:Shared) (σ:St) (H:Hp) (x y:V) (v u:Value) (Q:VK),Inv X BN σ H s->aK x v->aK y u->r x y H Q ->
  subscripted slice false v u=operate [v,u] (getItem v u)->wpAny (model X.prog X.w) X.A (subscriptTail value slice v u) (EP X BN σ Q) X.xe s
def MtR(X:Cx)(id:String)(r:V->List V->Hp->VK->Prop):Prop :=
 ∀(BN:List (Addr × Obj)) (s:Shared) (σ:St) (H:Hp) (x:V) (xs:List V) (v:Value) (us:List Value) (Q:VK),Inv X BN σ H s->aK x v->ar xs us->r x xs H Q ->
  wpAny (model X.prog X.w) X.A (call (.builtin id) (v::us)) (EP X BN σ Q) X.xe s
section
variable {X:Cx} {a b:Expr} {ta tb:TE} {pos:Pos}
theorem IxR.or(h:IxR X r)(h':IxR X r'):IxR X (fun x y H Q=>r x y H Q\/r' x y H Q):=by
 intro value slice BN s σ H x y v u Q I rx ry q hs;rcases q with q|q
 ·exact h value slice BN s σ H x y v u Q I rx ry q hs
 ·exact h' value slice BN s σ H x y v u Q I rx ry q hs
theorem pe_ix{r:R2}(hr:IxR X r)(ha:PE X a ta)(hb:PE X b tb)(hs:kA b):PE X (.Subscript a b pos) (tOp r ta tb):=by
 intro BN s σ H Q I h;exact Subscript_ (binT ha hb I h fun v u s2 x y H2 I2 rx ry q=>hr a b BN s2 σ H2 x y v u Q I2 rx ry q (hs _ _))
def rIxL(K:qaa):R2:=fun x y H Q=>∃p xs i v,x=.ref p/\y=.int i/\SqL K H p xs/\atI xs i=some v/\Q v H
def rIxT(K:qaa):R2:=fun x y H Q=>∃p xs i v,x=.ref p/\y=.int i/\SqT K H p xs/\atI xs i=some v/\Q v H
def rIxS:R2:=fun x y H Q=>∃z i c,x=.str z/\y=.int i/\z.length<=sizeLine/\atI z.cps.toList i=some c/\Q (.str ⟨#[c]⟩) H
theorem ix_list:IxR X (rIxL X.K):=by
 intro value slice BN s σ H x y v u Q I rx ry h hs;obtain⟨p,xs,i,z,rfl,rfl,hq,he,q⟩:=h;cases rx;obtain⟨t,rfl⟩:=ry;obtain⟨its,r,pl,hz⟩:=I.list hq;obtain⟨j,h1,h2,h3,h4,h5⟩:=j6 he;obtain⟨w,ew,rw'⟩:=r.get h2;have hl:=r.length;have hn:=ft;have fin:EP X BN σ Q w s:=⟨z,H,I,rw',q⟩;by_cases h0:0<=i
 ·have hj:i.toNat=j:=by
   rw[seqIndex_of h0 h5] at h1;exact Option.some.inj h1
  exact item_listR pl.isList h0 (by omega) (by rw[hj];simpa using ew) fin hs
 ·have hj:(i+(its.toArray.size:Int)).toNat=j:=by
   rw[seqIndex_neg (by omega) h4] at h1;rw[qal,<-hl];exact Option.some.inj h1
  exact subscriptTail_builtinR (x:=w) pl.isList.typeIs slot_list_getitem.lookup
   (wpAny_getItem_list_neg (Q:=fun r s'=>r=w/\EP X BN σ Q r s') pl.isList (by omega) (by rw[qal] <;> omega) (by omega) (by rw[hj];simpa using ew) ⟨rfl,fin⟩) hs
theorem ix_tup:IxR X (rIxT X.K):=by
 intro value slice BN s σ H x y v u Q I rx ry h hs;obtain⟨p,xs,i,z,rfl,rfl,hq,he,q⟩:=h;cases rx;obtain⟨t,rfl⟩:=ry;obtain⟨its,r,pl,hz⟩:=I.tuple hq;obtain⟨j,h1,h2,h3,h4,h5⟩:=j6 he;obtain⟨w,ew,rw'⟩:=r.get h2;have hl:=r.length;have hn:=ft;have fin:EP X BN σ Q w s:=⟨z,H,I,rw',q⟩;exact subscriptTail_builtinR (x:=w) pl.typeIs slot_tuple_getitem.lookup
  (getItem_tuple (j:=j) (Q:=fun r s'=>r=w/\EP X BN σ Q r s') pl (by omega) (by omega) (by rw[qal,<-hl];exact h1) (by simpa using ew) ⟨rfl,fin⟩) hs
theorem ix_str:IxR X rIxS:=by
 intro value slice BN s σ H x y v u Q I rx ry h hs;obtain⟨z,i,c,rfl,rfl,hz,he,q⟩:=h;obtain⟨t,rfl⟩:=rx;obtain⟨t',rfl⟩:=ry;obtain⟨j,h1,h2,h3,h4,h5⟩:=j6 he;have hl:z.cps.toList.length=z.length:=by simp[Str.length]
 rw[hl] at h1 h4 h5;have hn:=ft
 exact tail_any (typeIs_str s z t) slot_str_getitem.lookup (getItem_str (c:=c) (by
  have e1:decide (i < -(2 ^ 63:Int))=false:=decide_eq_false (by omega);have e2:decide (i>=2 ^ 63)=false:=decide_eq_false (by omega)
  rw[e1,e2,Bool.or_false]) (by rw[h1];simpa using h2) ⟨.str ⟨#[c]⟩,H,I.tok _,⟨_,rfl⟩,q⟩) hs
def rIx(K:qaa):R2:=fun x y H Q=>rIxL K x y H Q\/rIxT K x y H Q\/rIxS x y H Q
theorem ix_seq:IxR X (rIx X.K):=ix_list.or (ix_tup.or ix_str)
theorem qJ(its:List Value)(n j:Nat)(u:Value):Obj.mapSeq (·.setIfInBounds j u) { cls:=.type "list",data:=.seq its.toArray n}={ cls:=.type "list",data:=.seq (its.set j u).toArray n}:=by
 simp[Obj.mapSeq]
theorem Inv.lst{BN:List (Addr × Obj)}{σ:St}{H:Hp}{s:Shared}{p:Addr}{xs:List V}(I:Inv X BN σ H s)(h:H p=some (.lst xs)) :
  ∃(its:List Value) (n:Nat),ar xs its/\s.heap.get? p=some { cls:=.type "list",data:=.seq its.toArray n}/\xs.length<=sizeLine:=by
 obtain⟨z,its,n,r,e⟩:=I.hok p _ h;exact⟨its,n,r,e,z⟩
theorem Inv.lstUpd{BN:List (Addr × Obj)}{σ:St}{H:Hp}{s:Shared}{p:Addr}{xs ys:List V}{its its':List Value}{n n':Nat}{f:Obj->Obj}(I:Inv X BN σ H s)(h:H p=some (.lst xs))
  (ho:s.heap.get? p=some { cls:=.type "list",data:=.seq its.toArray n}) (hf:f { cls:=.type "list",data:=.seq its.toArray n}={ cls:=.type "list",data:=.seq its'.toArray n'}) (r:ar ys its') (hz:ys.length<=sizeLine) (t:Nat) :
  Inv X BN σ (upd H p (.lst ys)) { s with heap:=s.heap.update p f,toks:=t}:=by
 have e:(s.heap.update p f).get? p=some { cls:=.type "list",data:=.seq its'.toArray n'}:=by
  rw[qcq f ho (by rw[hf] <;> rfl),hf]
 refine I.write (x:=p) (e:=p) (by rw[h];trivial) (.inl rfl) (fun b u hb q=>(qcl _ _ (Ne.symm hb)).trans q) ⟨_,e⟩ ?_;exact⟨hz,its',n',r,e⟩
def rSetL:V->V->V->Hp->(Hp->Prop)->Prop:=fun o i v H Q=>∃p xs k j,o=.ref p/\i=.int k/\H p=some (.lst xs)/\ixN xs.length k=some j/\Q (upd H p (.lst (xs.set j v)))
theorem ud:PSet X rSetL:=by
 intro BN s σ H o i v ov iv u Q I ro ri rv h;obtain⟨p,xs,k,j,rfl,rfl,hp,hj,q⟩:=h;cases ro;obtain⟨t,rfl⟩:=ri;obtain⟨its,n,r,ho,hz⟩:=I.lst hp;obtain⟨h1,h2,h3,h4⟩:=pC hj;have hl:=r.length;have hn:=ft;have I':Inv X BN σ (upd H p (.lst (xs.set j v))) { s with heap:=s.heap.update p (Obj.mapSeq (·.setIfInBounds j u))} :=
  I.lstUpd hp ho (qJ its n j u) (r.set rv j) (by rw[List.length_set];exact hz) s.toks
 by_cases h0:0<=k
 ·have hk:k.toNat=j:=by
   rw[seqIndex_of h0 h4] at h1;exact Option.some.inj h1
  exact PySem.W.ki_setAt ho h0 (by omega) (by rw[qal,<-hl];exact h4) (by rw[hk];exact⟨_,I',q⟩)
 ·have hk:(k+(its.toArray.size:Int)).toNat=j:=by
   rw[seqIndex_neg (by omega) h3] at h1;rw[qal,<-hl];exact Option.some.inj h1
  exact PySem.W.ki_setBack ho (by omega) (by rw[qal,<-hl];exact h3) (by omega) (by rw[hk];exact⟨_,I',q⟩)
theorem mM(lo hi:Option Int)(n:Nat):(sliceBounds lo hi none n).1=((HT.sIx n 0 lo:Nat):Int)/\(sliceBounds lo hi none n).2.1=((HT.sIx n n hi:Nat):Int)/\(sliceBounds lo hi none n).2.2=1:=by
 refine⟨?_,?_,rfl⟩
 ·cases lo with
  | none=>simp[sliceBounds,HT.sIx]
  | some i =>
   simp only[sliceBounds,HT.sIx,Option.getD_none,show (1:Int)>0 by decide,if_true];by_cases h:i<0
   ·simp only[h,if_true] <;> omega
   ·simp only[h,if_false] <;> omega
 ·cases hi with
  | none=>simp[sliceBounds,HT.sIx]
  | some i =>
   simp only[sliceBounds,HT.sIx,Option.getD_none,show (1:Int)>0 by decide,if_true];by_cases h:i<0
   ·simp only[h,if_true] <;> omega
   ·simp only[h,if_false] <;> omega
theorem lJ(its:List Value)(lo hi:Option Int):slicePick its.toArray lo hi none=((its.drop (HT.sIx its.length 0 lo)).take (HT.sIx its.length its.length hi - HT.sIx its.length 0 lo)).toArray:=by
 obtain⟨h1,h2,h3⟩:=mM lo hi its.toArray.size;unfold slicePick;rw[h1,h2,h3];simp only[sliceRange_one,pick_run,qal] <;> rfl
def rSlL(K:qaa):V->Option Int->Option Int->Hp->VK->Prop:=fun x lo hi H Q=>∃a xs,x=.ref a/\SqL K H a xs/\∀p,H p=none->Q (.ref p) (upd H p (.lst (eN xs lo hi)))
theorem o8:SlR X (rSlL X.K):=by
 intro BN s σ H x v vl vu lo hi sl Q I rx hs pl pu h;obtain⟨a,xs,rfl,hx,q⟩:=h;cases rx;obtain⟨its,r,ht,hz⟩:=I.list hx;have hlen:=r.length;refine⟨"list",_,slot_list_getitem.lookup,ht.isList.typeIs,?_⟩;refine wpAny_getItem_list_slice ht.isList hs pl pu .none (by simp) ?_ (by rw[qal] <;> omega);rw[lJ,<-hlen];refine⟨.ref s.heap.objs.size,_,I.laid (t':=s.toks) (o:=.lst (eN xs lo hi)) (fun b ob q=>qae _ q) (qag _) ?_,rfl,q _ (I.hok.fresh (qag _))⟩;exact⟨qaA (iN xs lo hi) hz,_,0,(r.drop (HT.sIx xs.length 0 lo)).take (HT.sIx xs.length xs.length hi - HT.sIx xs.length 0 lo),qaz _ rfl⟩
theorem mI:bK X (.type "list") (fun xs H Q=>∃p ys,xs=[.ref p]/\(SqL X.K H p ys\/SqT X.K H p ys)/\∀l,H l=none->Q (.ref l) (upd H l (.lst ys))):=by
 intro BN s σ H xs us Q I r h;obtain⟨p,ys,rfl,hq,q⟩:=h;obtain⟨u,rfl,rx⟩:=dC r;cases rx;have fin:∀(its:List Value),ar ys its->ys.length<=sizeLine->∀(h':Heap) (c':Nat),(∀b o',s.heap.get? b=some o'->h'.get? b=some o') ->
   h'.get? s.heap.objs.size=some { cls:=.type "list",dict:=none,data:=.seq its.toArray c',slots:=#[]}->EP X BN σ Q (.ref s.heap.objs.size) { s with heap:=h'}:=fun its r' hz h' c' kp e =>
  ⟨.ref s.heap.objs.size,_,I.laid (t':=s.toks) kp (qag _) (show ObjOk X.prog X.w _ h' _ (.lst ys) from⟨hz,its,c',r',e⟩),rfl,q _ (I.hok.fresh (qag _))⟩
 rcases hq with hq|hq
 ·obtain⟨its,r',pl,hz⟩:=I.list hq;have hlen:=r'.length;obtain⟨o,ho,hc,n,hd⟩:=pl.isList;exact call_list_seq p (.inl rfl) ho hc hd (fun h' c' kp e=>fin its r' hz h' c' kp e) (by simp only[qal] <;> omega)
 ·obtain⟨its,r',pl,hz⟩:=I.tuple hq;have hlen:=r'.length;obtain⟨o,ho,hc,n,hd⟩:=pl;exact call_list_seq p (.inr rfl) ho hc hd (fun h' c' kp e=>fin its r' hz h' c' kp e) (by simp only[qal] <;> omega)
theorem gC:bK X (.type "tuple") (fun xs H Q=>∃p ys,xs=[.ref p]/\((SqL X.K H p ys/\∀l,H l=none->Q (.ref l) (upd H l (.tup ys)))\/(SqT X.K H p ys/\Q (.ref p) H))):=by
 intro BN s σ H xs us Q I r h;obtain⟨p,ys,rfl,h⟩:=h;obtain⟨u,rfl,rx⟩:=dC r;cases rx;rcases h with ⟨hq,q⟩|⟨hq,q⟩
 ·obtain⟨its,r',pl,hz⟩:=I.list hq;have hlen:=r'.length;refine call_tuple_list pl.isList (fun h' kp=>?_) (by simp only[qal] <;> omega);have I1:Inv X BN σ H { s with heap:=h'}:=I.kept (t':=s.toks) kp;have I2:Inv X BN σ (upd H h'.objs.size (.tup ys)) { s with heap:=h'.push { cls:=.type "tuple",data:=.seq its.toArray}} :=
   I1.laid (t':=s.toks) (fun b o e=>qae _ e) (qag _) (show ObjOk X.prog X.w _ _ _ (.tup ys) from⟨hz,its,r',eA.new _ _⟩)
  exact⟨.ref h'.objs.size,_,I2,rfl,q _ (I1.hok.fresh (qag _))⟩
 ·obtain⟨its,r',pl,hz⟩:=I.tuple hq;exact call_tuple_same pl ⟨.ref p,H,I,rfl,q⟩
def tyV(K:qaa)(T:String)(x:V)(H:Hp):Prop:=match x with
 | .str _=>T="str"
 | .int _=>T="int"
 | .ref p=>(T="list"/\∃xs,SqL K H p xs)\/(T="tuple"/\∃o,K.lookup p=some o/\o.cls=.type "tuple"/\o.dict=none) \/
   (T="dict"/\((∃kvs,H p=some (.dK kvs))\/∃kvs,H p=some (.dT kvs)))\/(T="set"/\∃S n,H p=some (.set S n))
 | _=>False
theorem tyV_is{BN:List (Addr × Obj)}{σ:St}{H:Hp}{s:Shared}{T:String}{x:V}{v:Value}(I:Inv X BN σ H s)(r:aK x v)(ty:tyV X.K T x H) :
  s.TypeIs v T/\∀a,v=.ref a->∃ob,s.heap.get? a=some ob/\ob.dict=none:=by
 cases x with
 | str z =>
  obtain⟨t,rfl⟩:=r;cases (show T="str" from ty);exact⟨typeIs_str s z t,fun _ e=>nomatch e⟩
 | int i =>
  obtain⟨t,rfl⟩:=r;cases (show T="int" from ty);exact⟨typeIs_int s i t,fun _ e=>nomatch e⟩
 | ref p =>
  cases r;rcases ty with ⟨rfl,xs,hq⟩|⟨rfl,o,hk,hc,hd⟩|⟨rfl,hk⟩|⟨rfl,S,n,hk⟩
  ·obtain⟨its,_,pl,_⟩:=I.list hq;refine⟨pl.isList.typeIs,fun a e=>?_⟩;cases e;obtain⟨o,n,e,c,hd,_⟩:=pl;exact⟨o,e,hd⟩
  ·refine⟨⟨o,I.kIn p o hk,hc⟩,fun a e=>?_⟩;cases e;exact⟨o,I.kIn _ o hk,hd⟩
  ·have z:∃o,s.heap.get? p=some o/\o.ExactDict:=by
    rcases hk with ⟨kvs,hk⟩|⟨kvs,hk⟩
    ·obtain⟨_,_,_,_,o,_,_,e,ex,_⟩:=I.hok p _ hk;exact⟨o,e,ex⟩
    ·obtain⟨_,_,_,_,o,_,_,e,ex,_⟩:=I.hok p _ hk;exact⟨o,e,ex⟩
   obtain⟨o,e,ex⟩:=z;refine⟨⟨o,e,ex.1⟩,fun a e2=>?_⟩;cases e2;exact⟨o,e,ex.2.1⟩
  ·obtain⟨o,_,_,_,e,ex,_⟩:=I.hok p _ hk;refine⟨⟨o,e,ex.1⟩,fun a e2=>?_⟩;cases e2;exact⟨o,e,ex.2.1⟩
 | _=>exact False.elim ty
def tBM(K:qaa)(T:String)(r:V->List V->Hp->VK->Prop)(to:TE)(t:TA):TE:=fun σ H Q=>to σ H fun x H1=>tyV K T x H1/\t σ H1 fun xs H2=>r x xs H2 Q
variable {o e:Expr} {es:List Expr} {to:TE} {t:TA} {name:Str} {apos cpos:Pos} {T id:String} {r:V→List V→Hp→VK→Prop}
theorem pe_bm(pa:PlainAttrs T)(slot:Slot T name id)(hty:typeOf (.builtin id)=pure (.type "method_descriptor"))(hm:MtR X id r)(ho:PE X o to)(ha:PA X (e::es) t)
  (hbase:attributeBase o name X.env (eval o X.env)=eval o X.env:=by rfl)
  (hfew:((backTo cpos (starEach (e::es) X.env)).all (fun x=>!x.1) && (backToKw cpos (keywordEach [] X.env)).all (fun x=>x.1.isSome)
   && decide ((e::es).length+([]:List Keyword).length+(if ([]:List Keyword).isEmpty then 0 else 1)<30))=true:=by rfl)
  (hline:(apos.endLine == cpos.line)=true:=by rfl) (hs:starEach (e::es) X.env=(false,eval e X.env)::starEach es X.env:=by rfl) (hplain:(backTo cpos (starEach es X.env)).any (·.1)=false:=by rfl) :
  PE X (.Call (.Attribute o name apos) (e::es) [] cpos) (tBM X.K T r to t):=by
 intro BN s σ H Q I h;refine wpAny_Call_method_late hbase hfew hline rfl (thn (ho BN s σ H _ I h) fun v s1 ⟨x,H1,I1,r1,ty,q1⟩=>?_);obtain⟨h1,h2⟩:=tyV_is I1 r1 ty;refine⟨T,id,pa,slot,hty,h1,h2,?_⟩;have hA:=ha cpos BN s1 σ H1 _ I1 q1;rw[hs] at hA ⊢;refine Calls.callWith_builtin (by show (false || (backTo cpos (starEach es X.env)).any (·.1))=false;rw[hplain] <;> rfl) (Calls.evalArgs_plain ?_);exact thn hA fun us s2 ⟨vs,H2,I2,r2,q2⟩=>hm BN s2 σ H2 x vs v us Q I2 r1 r2 q2
end
def MtM(X:Cx)(id:String)(r:V->List V->Hp->VK->Prop):Prop :=
 ∀(BN:List (Addr × Obj)) (s:Shared) (σ:St) (H:Hp) (x:V) (xs:List V) (v:Value) (us:List Value) (Q:VK),Inv X BN σ H s->aK x v->ar xs us->r x xs H Q ->
  wpAny (model X.prog X.w) X.A (call (.builtin id) (v::us)) (EP X BN σ Q) X.xe s
theorem ar.zero(h:ar [] us):us=[]:=by cases h;rfl
theorem ar.one(h:ar [x] us):∃u,us=[u]/\aK x u:=by
 cases h with|cons r t=>exact⟨_,by rw[ar.zero t],r⟩
theorem ar.eraseIdx(i:Nat)(r:ar xs us):ar (xs.eraseIdx i) (us.eraseIdx i):=by
 induction r generalizing i with
 | nil=>exact .nil
 | cons a t ih =>
  cases i with
  | zero=>exact t
  | succ i=>exact .cons a (ih i)
theorem ar.rep(h:ar xs us):∀k:Nat,ar (List.replicate k xs).flatten (List.replicate k us).flatten
 | 0=>.nil
 | k+1=>by
  rw[qbe,qbe,qbo,qbo];exact ar.append h (ar.rep h k)
theorem kR(its:List Value):∀(k:Nat) (acc:List Value),
  List.foldl (fun x1 x2=>x1++x2) acc.toArray (List.replicate k its.toArray)=(acc++(List.replicate k its).flatten).toArray
 | 0,acc=>by simp
 | k+1,acc=>by
  have e:acc.toArray++its.toArray=(acc++its).toArray:=by simp
  have e2:(acc++its)++(List.replicate k its).flatten=acc++(List.replicate (k+1) its).flatten:=by
   rw[qbe,qbo,qaX]
  rw[<-e2,<-kR its k (acc++its),<-e,qbe,List.foldl_cons]
section
variable {X:Cx} {BN:List (Addr × Obj)} {σ:St} {H:Hp} {s:Shared} {l b:Addr} {xs ys zs:List V}
theorem Inv.lset{its its':List Value}{n:Nat}{f:Array Value->Array Value}{t':Nat}(I:Inv X BN σ H s)(hH:H l=some (.lst xs))
  (e:s.heap.get? l=some { cls:=.type "list",data:=.seq its.toArray n}) (hf:f its.toArray=its'.toArray) (hv:ar ys its') (hz:ys.length<=sizeLine) :
  Inv X BN σ (upd H l (.lst ys)) { s with heap:=s.heap.update l (Obj.mapSeq f),toks:=t'}:=by
 have q:=PySem.IsL.update e f;rw[hf] at q;refine I.write (x:=l) (e:=l) (by rw[hH];exact trivial) (.inl rfl) (fun b' u hb hu=>(qcl s.heap (Obj.mapSeq f) (Ne.symm hb)).trans hu) ⟨_,q⟩ ?_;exact⟨hz,its',_,hv,q⟩
theorem Inv.lnew(I:Inv X BN σ H s)(hv:ar ys its)(hz:ys.length<=sizeLine) :
  Inv X BN σ (upd H s.heap.objs.size (.lst ys)) { s with heap:=s.heap.push { cls:=.type "list",data:=.seq its.toArray},toks:=t'} :=
 I.laid (fun _ _ q=>qae _ q) (qag _) ⟨hz,its,0,hv,qaz _ rfl⟩
theorem Inv.fresh(I:Inv X BN σ H s):H s.heap.objs.size=none:=I.hok.fresh (qag _)
theorem Inv.lstM(I:Inv X BN σ H s)(hH:H l=some (.lst xs)):xs.length<=sizeLine/\∃(its:List Value) (n:Nat),ar xs its/\xs.length=its.length/\s.heap.get? l=some { cls:=.type "list",data:=.seq its.toArray n}:=by
 obtain⟨z,its,n,r,e⟩:=I.hok l _ hH;exact⟨z,its,n,r,r.length,e⟩
theorem tF(h:n<=sizeLine):Builtin.List.listTooLong n=false:=by
 unfold Builtin.List.listTooLong;exact decide_eq_false (by omega)
end
section
variable {X:Cx}
def rAppend:V->List V->Hp->VK->Prop:=fun x vs H Q=>∃l xs y,x=.ref l/\vs=[y]/\H l=some (.lst xs)/\xs.length<sizeLine/\Q .non (upd H l (.lst (xs++[y])))
theorem kU:MtM X "list.append" rAppend:=by
 intro BN s σ H x vs v us Q I rx rv h;obtain⟨l,xs,y,rfl,rfl,hH,hz,q⟩:=h;cases rx;obtain⟨u,rfl,ru⟩:=rv.one;obtain⟨z,its,n,r,hl,e⟩:=I.lstM hH;refine call_meets F.slot_list_append ⟨_,e,rfl⟩ F.entry_list_append (F.args_list_append_2 _ _) (PySem.list_append l its.toArray n u (by rw[qal];omega)) ⟨e,?_⟩;refine⟨.non,_,I.lset (its':=its++[u]) hH e (by simp) (r.append (.cons ru .nil)) ?_,rfl,q⟩;rw[qaN,List.length_singleton];omega
def rCat:R2:=fun x y H Q=>∃l b xs zs,x=.ref l/\y=.ref b/\H l=some (.lst xs)/\H b=some (.lst zs)/\xs.length+zs.length<=sizeLine/\∀p,H p=none->Q (.ref p) (upd H p (.lst (xs++zs)))
theorem op_cat:OpR X (binaryOp .Add) rCat:=by
 intro BN s σ H x y v u Q I rx ry h;obtain⟨l,b,xs,zs,rfl,rfl,hH,hB,hz,q⟩:=h;cases rx;cases ry;obtain⟨z,its,n,r,hl,e⟩:=I.lstM hH;obtain⟨z2,its2,n2,r2,hl2,e2⟩:=I.lstM hB;refine PySem.P.add_list e e2 ?_ (by rw[qal,qal];omega);have ea:its.toArray++its2.toArray=(its++its2).toArray:=by simp
 rw[ea];exact⟨.ref _,_,I.lnew (t':=s.toks) (r.append r2) (by rw[qaN];omega),rfl,q _ I.fresh⟩
def rRep:R2:=fun x y H Q=>∃l k xs,x=.ref l/\y=.int k/\H l=some (.lst xs) /\ -(2 ^ 63)<=k/\k<2 ^ 63/\xs.length * k.toNat<=sizeLine /\
 ∀p,H p=none->Q (.ref p) (upd H p (.lst (List.replicate k.toNat xs).flatten))
theorem pN{α:Type}(xs:List α)(k:Nat):(List.replicate k xs).flatten.length=k * xs.length:=by
 induction k with
 | zero=>simp
 | succ k ih=>rw[qbe,qbo,qaN,ih,Nat.succ_mul,Nat.add_comm]
theorem op_rep:OpR X (binaryOp .Mult) rRep:=by
 intro BN s σ H x y v u Q I rx ry h;obtain⟨l,k,xs,rfl,rfl,hH,h1,h2,hz,q⟩:=h;cases rx;obtain⟨t,rfl⟩:=ry;obtain⟨z,its,n,r,hl,e⟩:=I.lstM hH;have hlen:its.toArray.size * k.toNat<=sizeLine:=by rw[qal,<-hl];exact hz
 have hcap:¬its.toArray.size * k.toNat>(2 ^ 63 - 1) / 8:=by
  have:(sizeLine:Nat)<=(2 ^ 63 - 1) / 8:=by decide
  omega
 have hfit:¬(!Builtin.List.listFitsIndex k)=true:=by
  rw[fitsIndex_both h1 h2];exact qaI
 have hlong:¬Builtin.List.listTooLong (its.toArray.size * k.toNat)=true:=by
  rw[tF hlen];exact qaI
 have hnew:List.foldl (fun x1 x2=>x1++x2) #[] (List.replicate (if its.toArray.isEmpty=true then 0 else k.toNat) its.toArray)=(List.replicate k.toNat its).flatten.toArray:=by
  have f0:∀m:Nat,List.foldl (fun x1 x2=>x1++x2) #[] (List.replicate m its.toArray)=(List.replicate m its).flatten.toArray:=fun m=>by
   have:=kR its m []
   rw[List.nil_append] at this;exact this
  rw[f0]
  cases its with
  | nil=>simp
  | cons a r'=>rw[qai (by simp)]
 refine wpAny_binaryOp_repeat_ref (T:="list") (U:="int") (by decide) ⟨_,e,rfl⟩ (fun s'=>typeIs_int s' k t) noFill_list_mul F.fills_int_mul F.slot_int_rmul repeat_list F.slot_int_index.lookup
  (call_meets F.slot_int_rmul (typeIs_int s k t) F.entry_int_rmul (F.args_int_rmul_2 _ _) (int___rmul___int_list k t l its.toArray n)
   ⟨e,rfl,⟨_,e,rfl⟩,call_meets F.slot_list_mul ⟨_,e,rfl⟩ F.entry_list_mul (F.args_list_mul_2 _ _) (AutoListH.list___mul___list_int_3 l its.toArray n k t hfit hcap hlong) ⟨e,?_⟩⟩)
 rw[hnew];exact⟨.ref _,_,I.lnew (t':=s.toks) (r.rep k.toNat) (by rw[pN,Nat.mul_comm];exact hz),rfl,q _ I.fresh⟩
end
section
variable {prog:Program} {w:World} {A:Around} {E:Value→Shared→Prop} {s:Shared}
end
section
variable {X:Cx}
end
end L2
namespace Att
open PySem PySem.W PySem.Calls PyProof.Rows
theorem jn:∀(ns:List Int) (vs:List Value),WellAll P h vs (ns.map WData.int)->IntsAre vs ns:=by
 intro ns
 induction ns with
 | nil =>
  intro vs w;rw[qbH] at w;cases w;exact .nil
 | cons n ns ih =>
  intro vs w;rw[qaL] at w
  cases w with
  | cons a b =>
   cases a;exact .cons _ _ (ih _ b)
theorem sj{l:OpenLaw}{n:Nat}(hn:l.most=some n){P:Params}{h:Heap}{args:List WData}{vals:List Value}
  (hpre:l.row.toRowW.claim.pre args=true) (hwl:WellAll P h vals args) :
  ∃a vs ns,vals=[Value.ref a]/\args=[WData.list (ns.map WData.int)]/\h.get? a=some { cls:=.type "list",data:=.seq vs.toArray}/\IntsAre vs ns/\ns.length<=n:=by
 have hsh:WShape.hasAll [] args [.list .int]=true:=(pre_splitW hpre).1;have hc:l.pre.holds [] { args:=args}=true:=(pre_splitW hpre).2;obtain⟨d,r,rfl,h1,h2⟩:=hasAllW_cons hsh;obtain rfl:=hasAllW_nil h2;obtain⟨xs,rfl,h3⟩:=hasW_list h1;obtain⟨ns,rfl⟩:=items_int h3;have hlen:ns.length<=n:=by
  unfold OpenLaw.pre at hc;have h4:(WTm.not (.lt (.lit (.int (n:Int))) (.len (.arg 0)))).holds [] { args:=[.list (ns.map .int)]}=true:=by
   have h4:=(holds_andW hc).1;rw[hn] at h4;exact h4
  have h5:=condW_of h4 (w_not (w_lt w_lit (w_len_list (w_arg rfl))));rw[qaC] at h5;refine Nat.le_of_not_lt fun q=>?_;have q':(n:Int)<((ns.length:Nat):Int):=by omega
  first
   | (rw[decide_eq_true q'] at h5;exact absurd h5 (by decide))
   | (simp at h5;omega)
 cases hwl with
 | cons w1 w2 =>
  cases w2
  cases w1 with
  | list ho hall=>exact⟨_,_,ns,rfl,rfl,ho,jn ns _ hall,hlen⟩
theorem sN(l:OpenLaw)(args:List WData):l.row.toRowW.claim.post args (.bool true) args=true :=
 postW_of (r:=l.row.toRowW) (X:=(true == true))
  (show WShape.has [] (.bool true) .bool=true by first | rfl | decide | simp[WShape.has,WShape.arms,WShape.armsAll])
  (show (WTm.eq .res (.lit (.bool true))).value [] { args:=args,res:=some (.bool true),after:=args}=some (.bool (true == true)) from w_eq_bool (w_res rfl) w_lit) rfl
theorem oA{l:OpenLaw}{n:Nat}{q:Program}{loose:List Str}{XP:(Str->Option Value)->Heap->Prop}{YP:World->Heap->Prop}{d:DefRec}
  (hn:l.most=some n) (hdf:d.params.defaults=[])
  (call:∀(w:World) (s₀ s₁:Shared) (mg mb:Str->Option Value) (fa:Addr) (o:Obj) (pm cd doc:Value) (a:Addr) (vs:List Value) (ns:List Int),
   Ground q loose [] XP w s₀ mg mb s₁.heap->YP w s₁.heap ->
   s₁.heap.get? fa=some o->o.data=.func (docDef d.name d.params d.body d.scope pm cd doc)->s₁.heap.CodeRec cd d.name->mg d.name=some (.ref fa) ->
   s₁.heap.get? a=some { cls:=.type "list",data:=.seq vs.toArray}->IntsAre vs ns->ns.length<=n->s₁.gens=#[] ->
   codeAny (model l.prog w) callerA (.call (.ref fa) ⟨[.ref a],[]⟩) (fun r s'=>r=.ok (.ret (.bool true))/\OldK s₁.heap s'.heap/\s'.os=s₁.os/\AllBare s'.gens) s₁) :
  WalkO q loose XP YP l.row.toRowW d [] (fun f vs=>PySem.call f vs):=by
 intro w s₀ s₁ mg mb G Y fa o pm cd doc dV kV ho hd hcd hD hmg hg args vals as hpre hlay hrd hwl hlo;obtain rfl:dV=.none:=Dflts.none hD hdf;obtain rfl:kV=.none:=Dflts.noKw hD;obtain⟨a,vs,ns,rfl,rfl,hobj,hints,hlen⟩:=sj hn hpre hwl;refine enter_call (codeAny_mono (call w s₀ s₁ mg mb fa o pm cd doc a vs ns G Y ho (fd_plain hd) hcd hmg hobj hints hlen hg) fun r s' hq=>?_);obtain⟨rfl,h2,h3,h4⟩:=hq;exact⟨.inl ⟨.bool true,.bool true,[],rfl,fun _=>rfl,.bool true,sN l _,fun _=>⟨List.Pairwise.nil,fun _ hm=>(nomatch hm)⟩⟩,h2,h3,h4⟩
section
variable {prog:Program} {w:World} {A:Around} {E:Value→Shared→Prop} {s:Shared} {K:Frag}
end
end Att
namespace L2
open PySem PySem.Spec PyProof.Rows
theorem k6:∀{vs:List Value} {ns:List Int},IntsAre vs ns->ar (ns.map V.int) vs
 | _,_,.nil=>.nil
 | _,_,.cons n t h=>.cons ⟨t,rfl⟩ (k6 h)
def Only(H:Hp):Prop:=∀b,H b=none\/∃o xs,H b=some (.frz o (.lst xs))
theorem ul{P:Program}{w:World}{K:qaa}{mg mb:Str->Option Value}{CX:CXT}{k:Nat}{fa a:Addr}{fd:FuncData}{x:Str}{sp:Sp}{s₁:Shared}{vs:List Value}{ns:List Int}
  (KX:K.In s₁.heap) (hns:s₁.heap.Ns mainGlobals mg) (hb:s₁.heap.Ns builtinsNs mb) (hbb:∀x:Str,x≠"__name__"->mb x=bootBuiltins x) (hlim:s₁.heap.NoLimit) (hg:s₁.gens=#[])
  (ha:s₁.heap.get? a=some { cls:=.type "list",data:=.seq vs.toArray}) (hi:IntsAre vs ns) (hl:ns.length<=sizeLine) (hr:Room k callerA)
  (F:∀base:Heap,K.In base->base.Ns mainGlobals mg->FnOk P w K mg base CX k fa fd [x] sp) (hbind:∀(s:Shared) (u:Value),BindsTo s fd ⟨[u],[]⟩ [(x,u)])
  (hsp:∀H:Hp,Only H->SqL K H a (ns.map V.int)->sp [.ref a] H (fun v _=>v=.bl true) fun _ _ _=>False)
  (hCX:∀H e s',CX [] H s₁ (fun _ _ _=>False) e s'->False) :
  codeAny (model P w) callerA (.call (.ref fa) ⟨[.ref a],[]⟩) (fun r s'=>r=.ok (.ret (.bool true))/\OldK s₁.heap s'.heap/\s'.os=s₁.os/\AllBare s'.gens) s₁:=by
 have rv:=k6 hi;have lenV:=hi.length;have core:∀H:Hp,Only H->SqL K H a (ns.map V.int)->HOk P w H s₁.heap->(∀b,H b≠none->b=a)->(H a≠none->K.lookup a=none) ->
   codeAny (model P w) callerA (.call (.ref fa) ⟨[.ref a],[]⟩) (fun r s'=>r=.ok (.ret (.bool true))/\OldK s₁.heap s'.heap/\s'.os=s₁.os/\AllBare s'.gens) s₁:=by
  intro H hO hS hok hA hK;have base_of:∀{b:Addr} {o:Obj},s₁.heap.get? b=some o->H b=none->(gv s₁.heap H).get? b=some o:=fun e n=>ur e n;have noA:∀{b:Addr} {o:Obj} {es:Array DictEntry} {ep:Nat},s₁.heap.get? b=some o->o.data=.dict es ep->H b=none:=fun {b o es ep} e d=>by
   cases q:H b with
   | none=>rfl
   | some u =>
    have e':b=a:=hA b (by rw[q];simp);subst e';rw[ha] at e;cases e;have d':Data.seq vs.toArray _=Data.dict es ep:=d;cases d'
  have nsK:∀{b:Addr} {m:Str->Option Value},s₁.heap.Ns b m->(gv s₁.heap H).Ns b m:=fun {b m} ⟨o,es,ep,e,d,r⟩=>⟨o,es,ep,base_of e (noA e d),d,r⟩
  have hKb:K.In (gv s₁.heap H):=fun b o e=>base_of (KX b o e) (by
   cases q:H b with
   | none=>rfl
   | some u =>
    have e':b=a:=hA b (by rw[q];simp);subst e'
    rw[hK (by rw[q];simp)] at e;cases e)
  have hM:Mod K mg (gv s₁.heap H):=⟨hKb,nsK hns,⟨mb,nsK hb,hbb⟩,let ⟨mc,h1,h2⟩:=hlim;⟨mc,nsK h1,h2⟩⟩;have e0:Env0 P w K mg (gv s₁.heap H) callerA [] s₁ H:=⟨rfl,hM,fun b o e=>of_hidT e,Nat.le_of_eq (re _ _),trivial,fun b hb=>absurd (show b∈([]:List Addr) from hb) (by simp),hok,.of_eq hg⟩;refine codeAny_mono ((F _ hKb (nsK hns)).run callerA [] s₁ H ⟨[.ref a],[]⟩ [.ref a] [.ref a] _ _ hr e0 (hbind s₁ (.ref a)) (.cons rfl .nil) (hsp H hO hS)) fun r s' h=>?_
  cases r with
  | error e=>exact (hCX H e s' h).elim
  | ok fl =>
   cases fl with
   | next=>exact False.elim h
   | brk=>exact False.elim h
   | cont=>exact False.elim h
   | ret u =>
    obtain⟨v,H',os,bare,un,hok',r',q⟩:=h;have q':v=.bl true:=q;subst q';obtain rfl:u=Value.bool true:=r';refine⟨rfl,OldK.of_keep fun b o e=>?_,os,bare⟩
    cases q:H b with
    | none=>exact un.keep b o e q (by intro z;exact absurd (show b∈([]:List Addr) from z) (by simp)) (by simp)
    | some u =>
     rcases hO b with z|⟨ob,xs,z⟩
     ·rw[q] at z;cases z
     ·have z2:=un.frzs b ob _ z;obtain⟨e1,_⟩:=hok b _ z;obtain⟨e2,_⟩:=hok' b _ z2;rw[e] at e1;cases e1;exact e2
 cases hk:K.lookup a with
 | some o =>
  have e:=KX a o hk;rw[ha] at e;cases e;refine core (fun _=>none) (fun _=>.inl rfl) (.inr ⟨_,vs.toArray,_,hk,rfl,rfl,rfl,by rw[qal,lenV];exact hl,by simpa using rv⟩) (fun b u z=>by have z':(none:Option HO)=some u:=z;cases z') (fun b z=>absurd rfl z) fun z=>absurd rfl z
 | none =>
  refine core (fun b=>if b=a then some (.frz { cls:=.type "list",data:=.seq vs.toArray} (.lst (ns.map V.int))) else none) (fun b=>?_) (.inl (.inr ⟨{ cls:=.type "list",data:=.seq vs.toArray},qaf rfl⟩)) (fun b u z=>?_) (fun b z=>?_) fun _=>hk
  ·by_cases hb:b=a
   ·exact .inr ⟨_,_,qaf hb⟩
   ·exact .inl (qai hb)
  ·by_cases hb:b=a
   ·have z':=(qaf hb).symm.trans z;cases z';subst hb;exact⟨ha,by rw[qaC];exact hl,vs,_,rv,ha⟩
   ·have z':=(qai hb).symm.trans z;cases z'
  ·by_cases hb:b=a
   ·exact hb
   ·exact absurd (qai hb) z
abbrev KOf{K:qaa}{h:Heap}(_:K.In h):qaa:=K
theorem walk_of{l:PySem.W.OpenLaw}{n k:Nat}{q:Program}{loose:List Str}{XP:(Str->Option Value)->Heap->Prop}{YP:World->Heap->Prop}{d:DefRec}{K:Params->qaa}{CX:World->CXT}{sp:World->Sp}{x:Str}
  (hn:l.most=some n) (hn2:n<=sizeLine) (hdf:d.params.defaults=[]) (hr:Room k callerA)
  (hY:∀(w:World) (h:Heap),YP w h->(K w.params).In h)
  (F:∀(w:World) (mg:Str->Option Value) (fa:Addr) (h:Heap),(K w.params).In h->h.Ns mainGlobals mg->mg d.name=some (.ref fa) ->
   ∃fd:FuncData,(∀(s:Shared) (u:Value),BindsTo s fd ⟨[u],[]⟩ [(x,u)]) /\
    ∀base:Heap,(K w.params).In base->base.Ns mainGlobals mg->FnOk l.prog w (K w.params) mg base (CX w) k fa fd [x] (sp w))
  (hsp:∀(w:World) (H:Hp) (a:Addr) (ns:List Int),ns.length<=n->Only H->SqL (K w.params) H a (ns.map V.int)->sp w [.ref a] H (fun v _=>v=.bl true) fun _ _ _=>False)
  (hCX:∀(w:World) (H:Hp) (s:Shared) (e:Value) (s':Shared),CX w [] H s (fun _ _ _=>False) e s'->False) :
  PySem.W.WalkO q loose XP YP l.row.toRowW d [] (fun f vs=>PySem.call f vs):=by
 refine Att.oA hn hdf fun w s₀ s₁ mg mb fa o pm cd doc a vs ns G Y ho hd hcd hmg hobj hints hlen hg=>?_;have KX:=hY w _ Y;obtain⟨fd,hb,hF⟩:=F w mg fa _ KX G.T.g hmg;exact ul KX G.T.g G.T.b G.T.builtins G.T.nolimit hg hobj hints (qaA hlen hn2) hr hF hb (fun H hO hS=>hsp w H a ns hlen hO hS) fun H e s'=>hCX w H s₁ e s'
def dX(s:Stmt):Arguments:=match s with
 | .FunctionDef _ a _ _ _ _ _ _ _ _=>a
 | _=>{ posonlyargs:=[],args:=[],vararg:=none,kwonlyargs:=[],kw_defaults:=[],kwarg:=none,defaults:=[]}
def aN(s:Stmt):List Stmt:=match s with
 | .FunctionDef _ _ b _ _ _ _ _ _ _=>b
 | _=>[]
def aD(s:Stmt):Scope:=match s with
 | .FunctionDef _ _ _ _ _ _ sc _ _ _=>sc
 | _=>{ kind:=.function,names:=[],isGenerator:=false,isCoroutine:=false}
structure Fun (K:qaa) (x qual:Str) (st:Stmt) (f:Addr) (fd:FuncData):Prop where
 ex:∃(oc:Value) (od:Option Addr) (kV doc pm:Value) (an:Option Addr) (cdv ct:Value) (osl:Array (Option Value)),
  fd=PySem.W.fnOf x qual (dX st) (aN st) (aD st) .none kV doc pm an cdv ct/\K.lookup f=some ⟨oc,od,.func fd,osl⟩/\PySem.W.codeIn K cdv qual=true
 kp:PySem.W.keepIn K (.ref f)=true
section
variable {P:Program} {w:World} {K:qaa} {mg:Str→Option Value} {base:Heap}
theorem Fun.binds{x qual:Str}{st:Stmt}{f:Addr}{fd:FuncData}{ps:List Str}(F:Fun K x qual st f fd)
  (h:∀(kV doc pm:Value) (an:Option Addr) (cdv ct:Value) (us:List Value),us.length=ps.length->bindArgs (PySem.W.fnOf x qual (dX st) (aN st) (aD st) .none kV doc pm an cdv ct) ⟨us,[]⟩=pure (ps.zip us)):jl K fd ps []:=by
 obtain⟨oc,od,kV,doc,pm,an,cdv,ct,osl,rfl,lk,hcd⟩:=F.ex;exact .all (h kV doc pm an cdv ct)
theorem fun_mk{x qual:Str}{st:Stmt}{f:Addr}{oc:Value}{od an:Option Addr}{osl:Array (Option Value)}{kV doc pm cdv ct:Value}(l:K.lookup f=some ⟨oc,od,.func (PySem.W.fnOf x qual (dX st) (aN st) (aD st) .none kV doc pm an cdv ct),osl⟩)
  (c:PySem.W.codeIn K cdv qual=true) (k:PySem.W.keepIn K (.ref f)=true):Fun K x qual st f (PySem.W.fnOf x qual (dX st) (aN st) (aD st) .none kV doc pm an cdv ct):=⟨⟨oc,od,kV,doc,pm,an,cdv,ct,osl,rfl,l,c⟩,k⟩
end
section
variable {X:Cx}
end
end L2
namespace MM
open PySem PySem.Spec PyProof.Rows L2
inductive PV where
 | non | bl (b:Bool) | int (i:Int) | str (x:Str) | tup (xs:List PV) | frl (xs:List PV) | loc (n:Nat)
structure MExc where
 cls:Str
 fs:List (Str × PV):=[]
inductive MO where
 | lst (xs:List PV)
 | dic (kvs:List (PV × PV))
 | exc (x:MExc)
abbrev MH:=List MO
abbrev PSt:=List (Option PV)
inductive Out (α:Type) where
 | ok (a:α) (h:MH)
 | exc (x:MExc) (h:MH)
 | bad
def Out.bind{α β:Type}(o:Out α)(f:α->MH->Out β):Out β:=match o with
 | .ok a h=>f a h
 | .exc x h=>.exc x h
 | .bad=>.bad
@[simp] theorem Out.bind_ok(a:α)(h:MH)(f:α->MH->Out β):(Out.ok a h).bind f=f a h:=rfl
@[simp] theorem Out.bind_exc(x:MExc)(h:MH)(f:α->MH->Out β):(Out.exc x h).bind f=.exc x h:=rfl
@[simp] theorem Out.bind_bad(f:α->MH->Out β):(Out.bad:Out α).bind f=.bad:=rfl
inductive SOut where
 | nx (σ:PSt) (h:MH)
 | rt (v:PV) (h:MH)
 | bk (σ:PSt) (h:MH)
 | ct (σ:PSt) (h:MH)
 | exc (x:MExc) (σ:PSt) (h:MH)
 | rse (x:MExc) (σ:PSt) (h:MH)
 | bad
def Out.ne{α:Type}(o:Out α):Out α:=match o with
 | .exc _ _=>.bad
 | o=>o
@[simp] theorem Out.ne_ok(a:α)(h:MH):(Out.ok a h).ne=.ok a h:=rfl
@[simp] theorem Out.ne_bad:(Out.bad:Out α).ne=.bad:=rfl
@[simp] theorem Out.ne_ne(o:Out α):o.ne.ne=o.ne:=by cases o <;> rfl
def SqF(K:qaa)(H:Hp)(a:Addr)(ys:List V):Prop :=
 (∃o,H a=some (.frz o (.lst ys))) \/
  ∃(o:Obj) (its:Array Value) (n:Nat),K.lookup a=some o/\o.cls=.type "list"/\o.dict=none/\o.data=.seq its n/\its.size<=sizeLine/\ar ys its.toList
theorem SqF.sq{K:qaa}{H:Hp}{a:Addr}{ys:List V}(h:SqF K H a ys):SqL K H a ys:=by
 rcases h with h|h
 ·exact .inl (.inr h)
 ·exact .inr h
mutual
inductive RP (K:qaa) (ρ:List Addr) (H:Hp):PV->V->Prop where
 | non:RP K ρ H .non .non
 | bl (b:Bool):RP K ρ H (.bl b) (.bl b)
 | int (i:Int):RP K ρ H (.int i) (.int i)
 | str (x:Str):RP K ρ H (.str x) (.str x)
 | tup {xs:List PV} {a:Addr} {ys:List V} (s:SqT K H a ys) (r:RPs K ρ H xs ys):RP K ρ H (.tup xs) (.ref a)
 | frl {xs:List PV} {a:Addr} {ys:List V} (s:SqF K H a ys) (r:RPs K ρ H xs ys):RP K ρ H (.frl xs) (.ref a)
 | loc {n:Nat} {a:Addr} (e:ρ[n]?=some a):RP K ρ H (.loc n) (.ref a)
inductive RPs (K:qaa) (ρ:List Addr) (H:Hp):List PV->List V->Prop where
 | nil:RPs K ρ H [] []
 | cons {x:PV} {y:V} {xs:List PV} {ys:List V} (r:RP K ρ H x y) (t:RPs K ρ H xs ys):RPs K ρ H (x::xs) (y::ys)
end
structure Le (ρ:List Addr) (H:Hp) (ρ':List Addr) (H':Hp):Prop where
 pre:∃m,ρ'=ρ++m
 tup:∀a xs,H a=some (.tup xs)->H' a=some (.tup xs)
 frz:∀a o u,H a=some (.frz o u)->H' a=some (.frz o u)
theorem Le.refl(ρ:List Addr)(H:Hp):Le ρ H ρ H:=⟨⟨[],by simp⟩,fun _ _ h=>h,fun _ _ _ h=>h⟩
theorem Le.trans(a:Le ρ H ρ1 H1)(b:Le ρ1 H1 ρ2 H2):Le ρ H ρ2 H2:=by
 obtain⟨m,e⟩:=a.pre;obtain⟨m',e'⟩:=b.pre;exact⟨⟨m++m',by rw[e',e,qaX]⟩,fun c xs h=>b.tup c xs (a.tup c xs h),fun c o u h=>b.frz c o u (a.frz c o u h)⟩
theorem Le.get{ρ ρ':List Addr}{H H':Hp}(l:Le ρ H ρ' H'){n:Nat}{a:Addr}(e:ρ[n]?=some a):ρ'[n]?=some a:=by
 obtain⟨m,e'⟩:=l.pre;rw[e',qaj (qab.mp e).1];exact e
theorem Le.sqt{K:qaa}{ρ ρ':List Addr}{H H':Hp}(l:Le ρ H ρ' H'){a:Addr}{xs:List V}(h:SqT K H a xs):SqT K H' a xs:=by
 rcases h with (h|⟨o,h⟩)|h
 ·exact .inl (.inl (l.tup _ _ h))
 ·exact .inl (.inr ⟨o,l.frz _ _ _ h⟩)
 ·exact .inr h
theorem Le.sqf{K:qaa}{ρ ρ':List Addr}{H H':Hp}(l:Le ρ H ρ' H'){a:Addr}{xs:List V}(h:SqF K H a xs):SqF K H' a xs:=by
 rcases h with ⟨o,h⟩|h
 ·exact .inl ⟨o,l.frz _ _ _ h⟩
 ·exact .inr h
section
variable {K:qaa} {ρ ρ':List Addr} {H H':Hp}
theorem RP.le(l:Le ρ H ρ' H'){x:PV}{y:V}(r:RP K ρ H x y):RP K ρ' H' x y :=
 RP.rec (motive_1:=fun x y _=>RP K ρ' H' x y) (motive_2:=fun x y _=>RPs K ρ' H' x y) .non .bl .int .str (fun s _ i=>.tup (l.sqt s) i) (fun s _ i=>.frl (l.sqf s) i) (fun e=>.loc (l.get e)) .nil (fun _ _ a b=>.cons a b) r
theorem RPs.le(l:Le ρ H ρ' H')(r:RPs K ρ H xs ys):RPs K ρ' H' xs ys:=by
 induction xs generalizing ys with
 | nil=>cases r;exact .nil
 | cons x xs ih=>cases r with | cons a t=>exact .cons (a.le l) (ih t)
theorem RPs.length(r:RPs K ρ H xs ys):xs.length=ys.length:=by
 induction xs generalizing ys with
 | nil=>cases r;rfl
 | cons x xs ih=>cases r with | cons a t=>exact congrArg (·+1) (ih t)
theorem RPs.get{xs:List PV}{ys:List V}{i:Nat}{x:PV}(r:RPs K ρ H xs ys)(e:xs[i]?=some x):∃y,ys[i]?=some y/\RP K ρ H x y:=by
 induction xs generalizing ys i with
 | nil=>cases e
 | cons x xs ih =>
  cases r with
  | cons a t =>
   cases i with
   | zero=>cases e;exact⟨_,rfl,a⟩
   | succ i=>have z:=@ih _ i t e;exact z
theorem RPs.set(r:RP K ρ H x u)(i:Nat)(q:RPs K ρ H xs us):RPs K ρ H (xs.set i x) (us.set i u):=by
 induction xs generalizing us i with
 | nil=>cases q;exact .nil
 | cons x xs ih =>
  cases q with
  | cons a t =>
   cases i with
   | zero=>exact .cons r t
   | succ i=>exact .cons a (ih i t)
theorem RPs.append(r:RPs K ρ H xs us)(s:RPs K ρ H ys ws):RPs K ρ H (xs++ys) (us++ws):=by
 induction xs generalizing us with
 | nil=>cases r;exact s
 | cons x xs ih=>cases r with | cons a t=>exact .cons a (ih t)
theorem RPs.take(n:Nat)(r:RPs K ρ H xs us):RPs K ρ H (xs.take n) (us.take n):=by
 induction n generalizing xs us with
 | zero=>exact .nil
 | succ n ih =>
  cases xs with
  | nil=>cases r;exact .nil
  | cons x xs=>cases r with | cons a t=>exact .cons a (ih t)
theorem RPs.drop(n:Nat)(r:RPs K ρ H xs us):RPs K ρ H (xs.drop n) (us.drop n):=by
 induction n generalizing xs us with
 | zero=>exact r
 | succ n ih =>
  cases xs with
  | nil=>cases r;exact .nil
  | cons x xs=>cases r with | cons a t=>exact ih t
theorem RPs.ints:∀(ns:List Int),RPs K ρ H (ns.map PV.int) (ns.map V.int)
 | []=>.nil
 | n::r=>.cons (.int n) (RPs.ints r)
end
def dO(a C:Addr)(h:Heap):Prop:=∃o vs,h.get? a=some o/\o.cls=.ref C/\o.data=.fields vs
abbrev MGl:=Str->Option Value
def RO(K:qaa)(mg:MGl)(ρ:List Addr)(H:Hp)(a:Addr):MO->Option HO->Prop
 | .lst xs,oh=>∃ys,oh=some (.lst ys)/\RPs K ρ H xs ys
 | .dic kvs,oh=>kvs=[]/\oh=some (.dK [])
 | .exc x,oh=>x.fs=[]/\∃C,mg x.cls=some (.ref C)/\oh=some (.ext (dO a C))
structure RH (K:qaa) (mg:MGl) (ρ:List Addr) (H:Hp) (h:MH):Prop where
 len:ρ.length=h.length
 nd:ρ.Nodup
 at':∀(n:Nat) (a:Addr) (o:MO),ρ[n]?=some a->h[n]?=some o->RO K mg ρ H a o (H a)
theorem RO.le{K:qaa}{mg:MGl}{ρ ρ':List Addr}{H H':Hp}{a:Addr}(l:Le ρ H ρ' H'){o:MO}{oh:Option HO}(r:RO K mg ρ H a o oh):RO K mg ρ' H' a o oh:=by
 cases o with
 | lst xs=>obtain⟨ys,e,r⟩:=r;exact⟨ys,e,r.le l⟩
 | dic kvs=>exact r
 | exc x=>exact r
theorem RO.some{K:qaa}{mg:MGl}{ρ:List Addr}{H:Hp}{a:Addr}{o:MO}{oh:Option HO}(r:RO K mg ρ H a o oh):oh≠none:=by
 cases o with
 | lst xs=>obtain⟨ys,e,_⟩:=r;rw[e];simp
 | dic kvs=>obtain⟨_,e⟩:=r;rw[e];simp
 | exc x=>obtain⟨_,C,_,e⟩:=r;rw[e];simp
theorem RO.plain{K:qaa}{mg:MGl}{ρ:List Addr}{H:Hp}{a:Addr}{o:MO}{oh:Option HO}(r:RO K mg ρ H a o oh):(∀xs,oh≠Option.some (.tup xs))/\∀p u,oh≠Option.some (.frz p u):=by
 cases o with
 | lst xs=>obtain⟨ys,e,_⟩:=r;rw[e];exact⟨(fun _ z=>nomatch z),(fun _ _ z=>nomatch z)⟩
 | dic kvs=>obtain⟨_,e⟩:=r;rw[e];exact⟨(fun _ z=>nomatch z),(fun _ _ z=>nomatch z)⟩
 | exc x=>obtain⟨_,C,_,e⟩:=r;rw[e];exact⟨(fun _ z=>nomatch z),(fun _ _ z=>nomatch z)⟩
section
variable {K:qaa} {mg:MGl} {ρ:List Addr} {H:Hp} {h:MH}
theorem RH.obj(r:RH K mg ρ H h){n:Nat}{a:Addr}(e:ρ[n]?=some a):∃o,h[n]?=some o/\RO K mg ρ H a o (H a):=by
 have hn:n<h.length:=by rw[<-r.len];exact (qab.mp e).1
 exact⟨h[n],by simp[hn],r.at' n a _ e (by simp[hn])⟩
theorem RH.new(r:RH K mg ρ H h){p:Addr}(hp:H p=none){o:MO}{ho:HO}(hn:RO K mg ρ H p o (some ho)):RH K mg (ρ++[p]) (upd H p ho) (h++[o])/\Le ρ H (ρ++[p]) (upd H p ho):=by
 have hne:∀n a,ρ[n]?=some a->a≠p:=fun n a e z=>by
  obtain⟨o',_,q⟩:=r.obj e;rw[z,hp] at q;exact q.some rfl
 have l:Le ρ H (ρ++[p]) (upd H p ho):=⟨⟨[p],rfl⟩,fun a xs e=>by rw[aH (bh e hp)];exact e,fun a ob u e=>by rw[aH (bh e hp)];exact e⟩;refine⟨⟨by simp[r.len],?_,fun n a o' e1 e2=>?_⟩,l⟩
 ·rw[qcg];refine⟨r.nd,by simp,fun a ha b hb=>?_⟩;obtain⟨n,e⟩:=qaE.mp ha;have hb':b=p:=by simpa using hb
  rw[hb'];exact hne n a e
 ·by_cases hlt:n<ρ.length
  ·rw[qaj hlt] at e1;rw[qaj (by rw[<-r.len];exact hlt)] at e2;rw[aH (hne n a e1)];exact (r.at' n a o' e1 e2).le l
  ·rw[qau (by omega)] at e1;rw[qau (by rw[<-r.len];omega)] at e2;have hn0:n - ρ.length=0:=by
    rcases Nat.eq_zero_or_pos (n - ρ.length) with z|z
    ·exact z
    ·rw[qbf (by simp;omega)] at e1;cases e1
   rw[hn0] at e1;have hn1:n - h.length=0:=by have:=r.len;omega
   rw[hn1] at e2;simp at e1 e2;subst e1;subst e2;rw[bz];exact hn.le l
theorem RH.put(r:RH K mg ρ H h){n:Nat}{a:Addr}(e:ρ[n]?=some a){o:MO}{ho:HO}(hn:RO K mg ρ H a o (some ho)):RH K mg ρ (upd H a ho) (h.set n o)/\Le ρ H ρ (upd H a ho):=by
 obtain⟨o0,_,q⟩:=r.obj e;obtain⟨q1,q2⟩:=q.plain
 have l:Le ρ H ρ (upd H a ho):=⟨⟨[],by simp⟩,fun b xs z=>by
   have:b≠a:=by rintro rfl;exact q1 _ z
   rw[aH this];exact z,fun b ob u z=>by
   have:b≠a:=by rintro rfl;exact q2 _ _ z
   rw[aH this];exact z⟩
 refine⟨⟨by simp[r.len],r.nd,fun m b o' e1 e2=>?_⟩,l⟩;by_cases hm:m=n
 ·subst hm;rw[e] at e1;cases e1;rw[bz]
  have:m<h.length:=by rw[<-r.len];exact (qab.mp e).1
  rw[qas this] at e2;cases e2;exact hn.le l
 ·rw[qad (fun z=>hm z.symm)] at e2;have hb:b≠a:=by
   rintro rfl;have h1:=qab.mp e;have h2:=qab.mp e1;obtain⟨l1,g1⟩:=h1;obtain⟨l2,g2⟩:=h2;exact hm ((List.getElem_inj r.nd).mp (g2.trans g1.symm))
  rw[aH hb];exact (r.at' m b o' e1 e2).le l
theorem RH.tup(r:RH K mg ρ H h){p:Addr}(hp:H p=none)(ys:List V):RH K mg ρ (upd H p (.tup ys)) h/\Le ρ H ρ (upd H p (.tup ys)):=by
 have hne:∀n a,ρ[n]?=some a->a≠p:=fun n a e z=>by
  obtain⟨o',_,q⟩:=r.obj e;rw[z,hp] at q;exact q.some rfl
 have l:Le ρ H ρ (upd H p (.tup ys)):=⟨⟨[],by simp⟩,fun a xs e=>by rw[aH (bh e hp)];exact e,fun a ob u e=>by rw[aH (bh e hp)];exact e⟩;exact⟨⟨r.len,r.nd,fun n a o e1 e2=>by rw[aH (hne n a e1)];exact (r.at' n a o e1 e2).le l⟩,l⟩
end
def RS(K:qaa)(ρ:List Addr)(H:Hp)(σp:PSt)(σ:L2.St):Prop :=
 σ.length=σp.length/\∀(i:Nat) (v:PV),σp[i]?=some (some v)->∃v',σ[i]?=some (some v')/\RP K ρ H v v'
theorem RS.le{K:qaa}{ρ ρ':List Addr}{H H':Hp}{σp:PSt}{σ:L2.St}(l:Le ρ H ρ' H')(r:RS K ρ H σp σ):RS K ρ' H' σp σ :=
 ⟨r.1,fun i v e=>by obtain⟨v',e',q⟩:=r.2 i v e;exact⟨v',e',q.le l⟩⟩
theorem RS.set{K:qaa}{ρ:List Addr}{H:Hp}{σp:PSt}{σ:L2.St}(r:RS K ρ H σp σ)(i:Nat){v:PV}{v':V}(q:RP K ρ H v v'):RS K ρ H (σp.set i (some v)) (σ.set i (some v')):=by
 refine⟨by simp[r.1],fun j u e=>?_⟩;by_cases hj:j=i
 ·subst hj;by_cases hl:j<σp.length
  ·rw[qas hl] at e;cases e;exact⟨v',qas (by rw[r.1];exact hl),q⟩
  ·rw[qbf (by simp;omega)] at e;cases e
 ·rw[qad (fun z=>hj z.symm)] at e;obtain⟨u',e',q'⟩:=r.2 j u e;exact⟨u',by rw[qad (fun z=>hj z.symm)];exact e',q'⟩
def Cov(B:Heap)(fs:List Addr)(h:Heap):Prop:=∀b o,h.get? b=some o->b∉fs->∃ob,B.get? b=some ob
def Fly(l:List Env)(H:Hp)(lim:Heap)(C ea:Addr)(h:Heap):Prop :=
 ∃B t,Heap.FlyingW B l ea (.ref C) (.ref t) h/\(∀b o,H b=some o->∃ob,B.get? b=some ob)/\Cov B (frs l) lim/\H ea=none
structure Bears (X:Cx) (h:Heap):Prop where
 old:∀b o,X.s₀.heap.get? b=some o->b∉X.ex->∃o',h.get? b=some o'
 cell:∀x c,X.env.cells.lookup x=some c->∃o,h.get? c=some o
 pin:∀p∈X.pn,∃o,h.get? p.1=some o
theorem Inv.bears{X:Cx}{BN:List (Addr × Obj)}{σ:L2.St}{H:Hp}{s:Shared}(I:Inv X BN σ H s):Bears X s.heap :=
 ⟨fun b o e n=>I.base.there b o e n,fun x c e=>let ⟨_,o,eo,_⟩:=I.cell x c e;⟨o,eo⟩,fun p hp=>⟨_,(I.pin p (qay _ hp)).1⟩⟩
def XP(X:Cx)(σp:PSt)(ρ:List Addr)(H:Hp)(x:MExc)(h:MH):Prop:=∀(ea C:Addr) (ρ':List Addr) (H':Hp) (σ':L2.St) (s':Shared) (lim:Heap),x.fs=[]->X.mg x.cls=some (.ref C)->Le ρ H ρ' H'->RH X.K X.mg ρ' H' h->RS X.K ρ' H' σp σ' ->
 Inv X [] σ' H' s'->Bears X lim->Fly X.stack H' lim C ea s'.heap->X.xe (.ref ea) s'
def XM(X:Cx)(σp:PSt)(ρ:List Addr)(H:Hp)(x:MExc)(h:MH):Prop:=∀(ea C:Addr) (ρ':List Addr) (H':Hp) (σ':L2.St) (s':Shared) (h0:Heap) (args:List Value),x.fs=[]->X.mg x.cls=some (.ref C)->Le ρ H ρ' H'->RH X.K X.mg ρ' H' h->RS X.K ρ' H' σp σ' ->
 Inv X [] σ' H' { s' with heap:=h0}->Heap.MadeExcOf h0 s'.heap ea (.ref C) args->X.xe (.ref ea) s'
theorem XP.le(l:Le ρ H ρ' H')(q:XP X σp ρ H x h):XP X σp ρ' H' x h :=
 fun ea C ρ2 H2 σ2 s2 lim e1 e2 l2=>q ea C ρ2 H2 σ2 s2 lim e1 e2 (l.trans l2)
theorem XM.le(l:Le ρ H ρ' H')(q:XM X σp ρ H x h):XM X σp ρ' H' x h :=
 fun ea C ρ2 H2 σ2 s2 lim args e1 e2 l2=>q ea C ρ2 H2 σ2 s2 lim args e1 e2 (l.trans l2)
abbrev Rl(α β:Type):=List Addr->Hp->α->β->Prop
def Ful{α β:Type}(X:Cx)(R:Rl α β)(σp:PSt)(ρ:List Addr)(H:Hp)(o:Out α)(Q:β->Hp->Prop):Prop:=match o with
 | .ok v h'=>∀ρ' H' v',Le ρ H ρ' H'->RH X.K X.mg ρ' H' h'->R ρ' H' v v'->Q v' H'
 | .exc x h'=>XP X σp ρ H x h'
 | .bad=>False
def fj{α β:Type}(X:Cx)(R:Rl α β)(ρ:List Addr)(H:Hp)(o:Out α)(Q:β->Hp->Prop):Prop:=match o with
 | .ok v h'=>∀ρ' H' v',Le ρ H ρ' H'->RH X.K X.mg ρ' H' h'->R ρ' H' v v'->Q v' H'
 | _=>False
theorem Ful.zero(f:Ful X R σp ρ H o.ne Q):fj X R ρ H o Q:=by
 cases o with
 | ok v h=>exact f
 | exc x h=>exact f
 | bad=>exact f
theorem Ful.le(l:Le ρ H ρ1 H1)(f:Ful X R σp ρ H o Q):Ful X R σp ρ1 H1 o Q:=by
 cases o with
 | ok v h=>exact fun ρ' H' v' l'=>f ρ' H' v' (l.trans l')
 | exc x h=>exact XP.le (X:=X) (σp:=σp) (x:=x) (h:=h) l f
 | bad=>exact f
theorem Ful.bind{α β γ δ:Type}{X:Cx}{R:Rl α β}{S:Rl γ δ}{σp:PSt}{ρ:List Addr}{H:Hp}{o:Out α}{f:α->MH->Out γ}{Q:δ->Hp->Prop}{Q':β->Hp->Prop}(q:Ful X S σp ρ H (o.bind f) Q)
  (k:∀ρ1 H1 v v' h1,o=.ok v h1->Le ρ H ρ1 H1->RH X.K X.mg ρ1 H1 h1->R ρ1 H1 v v'->Ful X S σp ρ1 H1 (f v h1) Q->Q' v' H1):Ful X R σp ρ H o Q':=by
 cases o with
 | ok v h=>exact fun ρ' H' v' l r w=>k ρ' H' v v' h rfl l r w (Ful.le l q)
 | exc x h=>exact q
 | bad=>exact q
abbrev RV'(X:Cx):Rl PV V:=fun ρ H=>RP X.K ρ H
abbrev RVs'(X:Cx):Rl (List PV) (List V):=fun ρ H=>RPs X.K ρ H
abbrev REq{α:Type}:Rl α α:=fun _ _ x y=>x=y
abbrev Mx(α:Type):=PSt->MH->Out α
inductive tM {α β:Type} (X:Cx) (R:Rl α β) (m:Mx α) (σ:L2.St) (H:Hp) (Q:β->Hp->Prop):Prop
 | mk (ρ:List Addr) (σp:PSt) (h:MH) (rs:RS X.K ρ H σp σ) (rh:RH X.K X.mg ρ H h) (q:Ful X R σp ρ H (m σp h) Q):tM X R m σ H Q
def ME(X:Cx)(e:Expr)(m:Mx PV):Prop:=PE X e (tM X (RV' X) m)
def MT(X:Cx)(e:Expr)(m:Mx Bool):Prop:=PT X e (tM X REq m)
def MW(X:Cx)(e:Expr)(m:Mx Bool):Prop:=PW X e (tM X REq m)
def MA(X:Cx)(es:List Expr)(m:Mx (List PV)):Prop:=PA X es (tM X (RVs' X) m)
theorem PE.imp(h:PE X e t)(i:∀σ H Q,t' σ H Q->t σ H Q):PE X e t':=fun BN s σ H Q I q=>h BN s σ H Q I (i σ H Q q)
theorem PT.imp(h:PT X e t)(i:∀σ H Q,t' σ H Q->t σ H Q):PT X e t':=fun BN s σ H Q I q=>h BN s σ H Q I (i σ H Q q)
theorem PW.imp(h:PW X e t)(i:∀σ H Q,t' σ H Q->t σ H Q):PW X e t':=fun whole BN s σ H Q I q=>h whole BN s σ H Q I (i σ H Q q)
theorem PA.imp(h:PA X e t)(i:∀σ H Q,t' σ H Q->t σ H Q):PA X e t':=fun pos BN s σ H Q I q=>h pos BN s σ H Q I (i σ H Q q)
theorem PS.imp(h:PS X e t)(i:∀D σ H,t' D σ H->t D σ H):PS X e t':=fun BN s σ H D I q=>h BN s σ H D I (i D σ H q)
theorem PSs.imp(h:PSs X e t)(i:∀D σ H,t' D σ H->t D σ H):PSs X e t':=fun BN s σ H D I q=>h BN s σ H D I (i D σ H q)
def bf(X:Cx)(ρ:List Addr)(H:Hp)(o:SOut)(D:Ends):Prop:=match o with
 | .nx σp h'=>∀ρ' H' σ',Le ρ H ρ' H'->RH X.K X.mg ρ' H' h'->RS X.K ρ' H' σp σ'->D.nx σ' H'
 | .bk σp h'=>∀ρ' H' σ',Le ρ H ρ' H'->RH X.K X.mg ρ' H' h'->RS X.K ρ' H' σp σ'->D.bk σ' H'
 | .ct σp h'=>∀ρ' H' σ',Le ρ H ρ' H'->RH X.K X.mg ρ' H' h'->RS X.K ρ' H' σp σ'->D.ct σ' H'
 | .rt v h'=>∀ρ' H' v',Le ρ H ρ' H'->RH X.K X.mg ρ' H' h'->RP X.K ρ' H' v v'->D.rt v' H'
 | .exc x σp h'=>XP X σp ρ H x h'
 | .rse x σp h'=>XM X σp ρ H x h'
 | .bad=>False
theorem bf.le(l:Le ρ H ρ1 H1)(f:bf X ρ H o D):bf X ρ1 H1 o D:=by
 cases o with
 | nx σp h=>exact fun ρ' H' v' l'=>f ρ' H' v' (l.trans l')
 | bk σp h=>exact fun ρ' H' v' l'=>f ρ' H' v' (l.trans l')
 | ct σp h=>exact fun ρ' H' v' l'=>f ρ' H' v' (l.trans l')
 | rt v h=>exact fun ρ' H' v' l'=>f ρ' H' v' (l.trans l')
 | exc x σp h=>exact XP.le (X:=X) (σp:=σp) (x:=x) (h:=h) l f
 | rse x σp h=>exact XM.le (X:=X) (σp:=σp) (x:=x) (h:=h) l f
 | bad=>exact f
abbrev Mst:=PSt->MH->SOut
inductive tMS (X:Cx) (m:Mst) (D:Ends) (σ:L2.St) (H:Hp):Prop
 | mk (ρ:List Addr) (σp:PSt) (h:MH) (rs:RS X.K ρ H σp σ) (rh:RH X.K X.mg ρ H h) (q:bf X ρ H (m σp h) D):tMS X m D σ H
def MS(X:Cx)(st:Stmt)(m:Mst):Prop:=PS X st (tMS X m)
def MSs(X:Cx)(st:List Stmt)(m:Mst):Prop:=PSs X st (tMS X m)
section
variable {X:Cx} {N W G:List Str} {k:Nat}
structure Good (X:Cx) (N W G:List Str) (k:Nat):Prop where
 hN:X.N=N
 nd:N.Nodup
 loc:∀x∈N,Loc X.env.scope x
 fn:∀x∈W,X.fn x=true\/X.env.scope.names.lookup x=some .local
 gl:∀x∈G,Gl X x
 dbg:∀x∈N++G,(x == ("__debug__":Str))=false/\(x == ("__classdict__":Str))=false/\x≠"__name__"
 calm:X.calm=true
 room:Room k X.A
 po:PassesOwn (model X.prog X.w) X.A X.env X.xe
theorem Good.x(g:Good X N W G k){i:Nat}{x:Str}(hi:N[i]?=some x):X.N[i]?=some x:=by rw[g.hN];exact hi
theorem aw{l:List Str}{i:Nat}{x:Str}(hi:l[i]?=some x):x∈l:=qaV hi
def rJ(X:Cx)(g:PV->PV->MH->Out PV):R2:=fun x' y' H Q=>∃ρ h x y,RH X.K X.mg ρ H h/\RP X.K ρ H x x'/\RP X.K ρ H y y'/\fj X (RV' X) ρ H (g x y h) Q
abbrev OpJ(X:Cx)(f:Value->Value->Sem Value)(g:PV->PV->MH->Out PV):Prop:=OpR X f (rJ X g)
def uJ(X:Cx)(g:PV->MH->Out PV):V->Hp->VK->Prop:=fun x' H Q=>∃ρ h x,RH X.K X.mg ρ H h/\RP X.K ρ H x x'/\fj X (RV' X) ρ H (g x h) Q
abbrev UnJ(X:Cx)(f:Value->Sem Value)(g:PV->MH->Out PV):Prop:=UnR X f (uJ X g)
def cJ(X:Cx)(g:List PV->MH->Out PV):List V->Hp->VK->Prop:=fun xs' H Q=>∃ρ h xs,RH X.K X.mg ρ H h/\RPs X.K ρ H xs xs'/\fj X (RV' X) ρ H (g xs h) Q
abbrev bY(X:Cx)(f:Value)(g:List PV->MH->Out PV):Prop:=bK X f (cJ X g)
def af(i:Nat):Mx PV:=fun σ h=>match σ[i]? with
 | some (some v)=>.ok v h
 | _=>.bad
def mC(v:PV):Mx PV:=fun _ h=>.ok v h
theorem me_var(g:Good X N W G k)(i:Nat){x:Str}{pos:Pos}(hi:N[i]?=some x):ME X (.Name x pos) (af i):=by
 have d:=g.dbg x (qay _ (aw hi));have hv:Vis X.env.scope x:=by
  rcases g.loc x (aw hi) with q|q
  ·exact .inl q
  ·exact .inr (.inl q)
 refine PE.imp (rg (g.x hi) hv d.1 d.2.1) fun σ H Q ⟨ρ,σp,h,rs,rh,f⟩=>?_;unfold af at f
 cases e:σp[i]? with
 | none=>rw[e] at f;exact f.elim
 | some o =>
  rw[e] at f
  cases o with
  | none=>exact f.elim
  | some v =>
   obtain⟨v',e',r⟩:=rs.2 i v e;exact⟨v',e',f ρ H v' (Le.refl _ _) rh r⟩
theorem aj:ME X (.Constant (.int i) j pos) (mC (.int i)):=PE.imp pe_int fun _ H _ ⟨ρ,_,_,_,rh,f⟩=>f ρ H _ (Le.refl _ _) rh (.int i)
theorem cg:ME X (.Constant (.str i) j pos) (mC (.str i)):=PE.imp pe_str fun _ H _ ⟨ρ,_,_,_,rh,f⟩=>f ρ H _ (Le.refl _ _) rh (.str i)
theorem dq:ME X (.Constant (.bool i) j pos) (mC (.bl i)):=PE.imp pe_bl fun _ H _ ⟨ρ,_,_,_,rh,f⟩=>f ρ H _ (Le.refl _ _) rh (.bl i)
theorem eM:ME X (.Constant .none j pos) (mC .non):=PE.imp pe_non fun _ H _ ⟨ρ,_,_,_,rh,f⟩=>f ρ H _ (Le.refl _ _) rh .non
def ai(f:PV->PV->MH->Out PV)(ma mb:Mx PV):Mx PV:=fun σ h=>(ma σ h).bind fun x h1=>(mb σ h1).bind fun y h2=>(f x y h2).ne
def mUn(f:PV->MH->Out PV)(ma:Mx PV):Mx PV:=fun σ h=>(ma σ h).bind fun x h1=>(f x h1).ne
theorem mO{f:PV->PV->MH->Out PV}{ma mb:Mx PV}{σ:L2.St}{H:Hp}{Q:VK}(q:tM X (RV' X) (ai f ma mb) σ H Q):tOp (rJ X f) (tM X (RV' X) ma) (tM X (RV' X) mb) σ H Q:=by
 obtain⟨ρ,σp,h,rs,rh,q⟩:=q;refine⟨ρ,σp,h,rs,rh,Ful.bind q fun ρ1 H1 x x' h1 _ l1 rh1 rx q1=>?_⟩;refine⟨ρ1,σp,h1,rs.le l1,rh1,Ful.bind q1 fun ρ2 H2 y y' h2 _ l2 rh2 ry q2=>?_⟩;exact⟨ρ2,h2,x,y,rh2,rx.le l2,ry,q2.zero⟩
theorem ao(ho:OpJ X (binaryOp op) f)(ha:ME X a ma)(hb:ME X b mb):ME X (.BinOp a op b pos) (ai f ma mb) :=
 PE.imp (pe_op ho ha hb) fun _ _ _ q=>mO q
theorem me_un(ho:UnJ X (unaryOp op) f)(ha:ME X a ma):ME X (.UnaryOp op a pos) (mUn f ma) :=
 PE.imp (pe_un ho ha) fun _ _ _ ⟨ρ,σp,h,rs,rh,q⟩=>⟨ρ,σp,h,rs,rh,Ful.bind q fun ρ1 H1 x x' h1 _ l1 rh1 rx q1=>⟨ρ1,h1,x,rh1,rx,q1.zero⟩⟩
theorem me_cmp(ho:OpJ X (compareOp op) f)(ha:ME X a ma)(hb:ME X b mb)(hm:behindInMarks op b=false):ME X (.Compare a [op] [b] pos) (ai f ma mb) :=
 PE.imp (pe_cmpR ho ha hb hm) fun _ _ _ q=>mO q
def mB(m:Mx PV):Mx Bool:=fun σ h=>(m σ h).bind fun v h1=>match v with
 | .bl b=>.ok b h1
 | _=>.bad
theorem tM_B(q:tM X REq (mB m) σ H Q):tM X (RV' X) m σ H fun x H1=>∃c,x=.bl c/\Q c H1:=by
 obtain⟨ρ,σp,h,rs,rh,q⟩:=q;refine⟨ρ,σp,h,rs,rh,Ful.bind q fun ρ1 H1 x x' h1 _ l1 rh1 rx q1=>?_⟩
 cases rx with
 | bl b=>exact⟨b,rfl,q1 ρ1 H1 b (Le.refl _ _) rh1 rfl⟩
 | _=>exact q1.elim
theorem mt_cmp(ho:OpJ X (compareOp op) f)(ha:ME X a ma)(hb:ME X b mb)(hm:behindInMarks op b=false):MT X (.Compare a [op] [b] pos) (mB (ai f ma mb)) :=
 PT.imp (pt_cmpR ho ha hb hm) fun σ H Q q=>by
  obtain⟨ρ,σp,h,rs,rh,q⟩:=tM_B q;exact mO (Q:=fun x H'=>∃k,x=.bl k/\Q k H') ⟨ρ,σp,h,rs,rh,q⟩
theorem fI(h:ME X e m)(he:∀whole,isTrue e X.env whole=(do let v <-whole;standAt e.pos;holding [v] (truthy v)):=by intro _;rfl):MT X e (mB m) :=
 PT.imp (pt_val h he) fun _ _ _ q=>tM_B q
def fh(m:Mx Bool):Mx Bool:=fun σ h=>(m σ h).bind fun b h1=>.ok (!b) h1
theorem fA(h:MT X e m):MT X (.UnaryOp .Not e pos) (fh m) :=
 PT.imp (pt_not h) fun _ _ _ ⟨ρ,σp,h,rs,rh,q⟩=>⟨ρ,σp,h,rs,rh,Ful.bind q fun ρ1 H1 x x' h1 _ l1 rh1 rx q1=>by
  cases rx;exact q1 ρ1 H1 _ (Le.refl _ _) rh1 rfl⟩
def mQ(a b:Mx Bool):Mx Bool:=fun σ h=>(a σ h).bind fun x h1=>if x=true then b σ h1 else .ok false h1
def mOr(a b:Mx Bool):Mx Bool:=fun σ h=>(a σ h).bind fun x h1=>if x=true then .ok true h1 else b σ h1
section
variable {a b:Expr} {rest:List Expr} {ma mb:Mx Bool} {pos:Pos}
theorem oK(ha:MT X a ma):MW X (.BoolOp .And [a] pos) ma:=pw_and1 ha
theorem sB(ha:MT X a ma):MW X (.BoolOp .Or [a] pos) ma:=pw_or1 ha
theorem rR(ha:MT X a ma)(hb:MW X (.BoolOp .And (b::rest) pos) mb):MW X (.BoolOp .And (a::b::rest) pos) (mQ ma mb) :=
 PW.imp (pw_and ha hb) fun σ H Q ⟨ρ,σp,h,rs,rh,q⟩=>⟨ρ,σp,h,rs,rh,Ful.bind q fun ρ1 H1 x x' h1 _ l1 rh1 rx q1=>by
  cases rx
  cases x with
  | true=>rw[qaf rfl] at q1 ⊢;exact⟨ρ1,σp,h1,rs.le l1,rh1,q1⟩
  | false=>rw[qai qaI] at q1 ⊢;exact q1 ρ1 H1 _ (Le.refl _ _) rh1 rfl⟩
theorem lR(ha:MT X a ma)(hb:MW X (.BoolOp .Or (b::rest) pos) mb):MW X (.BoolOp .Or (a::b::rest) pos) (mOr ma mb) :=
 PW.imp (pw_or ha hb) fun σ H Q ⟨ρ,σp,h,rs,rh,q⟩=>⟨ρ,σp,h,rs,rh,Ful.bind q fun ρ1 H1 x x' h1 _ l1 rh1 rx q1=>by
  cases rx
  cases x with
  | true=>rw[qaf rfl] at q1 ⊢;exact q1 ρ1 H1 _ (Le.refl _ _) rh1 rfl
  | false=>rw[qai qaI] at q1 ⊢;exact⟨ρ1,σp,h1,rs.le l1,rh1,q1⟩⟩
theorem MW.mt(h:MW X e m):MT X e m:=PW.pt h
end
def jD(a b:Mx PV):Mx PV:=fun σ h=>(a σ h).bind fun x h1=>match x with
 | .bl c=>if c=true then b σ h1 else .ok (.bl false) h1
 | _=>.bad
def lQ(a:Mx PV):Mx PV:=fun σ h=>(a σ h).bind fun x h1=>match x with
 | .bl c=>.ok (.bl (!c)) h1
 | _=>.bad
section
variable {a b:Expr} {rest:List Expr} {ma mb:Mx PV} {pos:Pos}
theorem rq(ha:ME X a ma):ME X (.BoolOp op [a] pos) ma:=pe_one ha
theorem rG(ha:ME X a ma)(hb:ME X (.BoolOp .And (b::rest) pos) mb):ME X (.BoolOp .And (a::b::rest) pos) (jD ma mb) :=
 PE.imp (pe_and ha hb) fun σ H Q ⟨ρ,σp,h,rs,rh,q⟩=>⟨ρ,σp,h,rs,rh,Ful.bind q fun ρ1 H1 x x' h1 _ l1 rh1 rx q1=>by
  cases rx with
  | bl c =>
   refine⟨c,rfl,?_⟩;dsimp only at q1
   cases c with
   | true=>rw[qaf rfl] at q1 ⊢;exact⟨ρ1,σp,h1,rs.le l1,rh1,q1⟩
   | false=>rw[qai qaI] at q1 ⊢;exact q1 ρ1 H1 _ (Le.refl _ _) rh1 (.bl false)
  | _=>exact q1.elim⟩
theorem me_not(ha:ME X a ma):ME X (.UnaryOp .Not a pos) (lQ ma) :=
 PE.imp (pe_not ha) fun σ H Q ⟨ρ,σp,h,rs,rh,q⟩=>⟨ρ,σp,h,rs,rh,Ful.bind q fun ρ1 H1 x x' h1 _ l1 rh1 rx q1=>by
  cases rx with
  | bl c=>exact⟨c,rfl,q1 ρ1 H1 _ (Le.refl _ _) rh1 (.bl _)⟩
  | _=>exact q1.elim⟩
end
def mNil:Mx (List PV):=fun _ h=>.ok [] h
def ae(a:Mx PV)(r:Mx (List PV)):Mx (List PV):=fun σ h=>(a σ h).bind fun x h1=>(r σ h1).bind fun xs h2=>.ok (x::xs) h2
theorem ah:MA X [] mNil:=PA.imp eE fun σ H Q ⟨ρ,σp,h,rs,rh,q⟩=>q ρ H _ (Le.refl _ _) rh .nil
theorem aa(ha:ME X e m)(hr:MA X es ms)(hs:starEach (e::es) X.env=(false,eval e X.env)::starEach es X.env:=by rfl):MA X (e::es) (ae m ms) :=
 PA.imp (bU ha hr hs) fun σ H Q ⟨ρ,σp,h,rs,rh,q⟩=>⟨ρ,σp,h,rs,rh,Ful.bind q fun ρ1 H1 x x' h1 _ l1 rh1 rx q1 =>
  ⟨ρ1,σp,h1,rs.le l1,rh1,Ful.bind q1 fun ρ2 H2 y y' h2 _ l2 rh2 ry q2=>q2 ρ2 H2 _ (Le.refl _ _) rh2 (.cons (rx.le l2) ry)⟩⟩
noncomputable def newL(xs:List PV)(h:MH):Out PV:=if xs.length<=sizeLine then .ok (.loc h.length) (h++[.lst xs]) else .bad
noncomputable def newT(xs:List PV)(h:MH):Out PV:=if xs.length<=sizeLine then .ok (.tup xs) h else .bad
theorem iB{ρ:List Addr}{H:Hp}{h:MH}{xs:List PV}{ys:List V}{Q:VK}(rh:RH X.K X.mg ρ H h)(rs:RPs X.K ρ H xs ys)(f:fj X (RV' X) ρ H (newL xs h) Q):ys.length<=sizeLine/\∀p,H p=none->Q (.ref p) (upd H p (.lst ys)):=by
 unfold newL at f
 split at f
 ·rename_i hl
  refine⟨by rw[<-rs.length];exact hl,fun p hp=>?_⟩;obtain⟨r1,l1⟩:=rh.new hp (o:=.lst xs) (ho:=.lst ys) ⟨ys,rfl,rs⟩;refine f _ _ _ l1 r1 (.loc ?_);rw[<-rh.len];simp
 ·exact f.elim
theorem oZ{ρ:List Addr}{H:Hp}{h:MH}{xs:List PV}{ys:List V}{Q:VK}(rh:RH X.K X.mg ρ H h)(rs:RPs X.K ρ H xs ys)(f:fj X (RV' X) ρ H (newT xs h) Q):ys.length<=sizeLine/\∀p,H p=none->Q (.ref p) (upd H p (.tup ys)):=by
 unfold newT at f
 split at f
 ·rename_i hl
  refine⟨by rw[<-rs.length];exact hl,fun p hp=>?_⟩;obtain⟨r1,l1⟩:=rh.tup hp ys;exact f _ _ _ l1 r1 (.tup (.inl (.inl bz)) (rs.le l1))
 ·exact f.elim
theorem newL_f{σp:PSt}{ρ:List Addr}{H:Hp}{h:MH}{xs:List PV}{Q:VK}(f:Ful X (RV' X) σp ρ H (newL xs h) Q):fj X (RV' X) ρ H (newL xs h) Q:=by
 unfold newL at f ⊢
 split at f
 ·rw[qaf (by assumption)];exact f
 ·exact f.elim
theorem newT_f{σp:PSt}{ρ:List Addr}{H:Hp}{h:MH}{xs:List PV}{Q:VK}(f:Ful X (RV' X) σp ρ H (newT xs h) Q):fj X (RV' X) ρ H (newT xs h) Q:=by
 unfold newT at f ⊢
 split at f
 ·rw[qaf (by assumption)];exact f
 ·exact f.elim
noncomputable def aZ(m:Mx (List PV)):Mx PV:=fun σ h=>(m σ h).bind newL
noncomputable def dY(m:Mx (List PV)):Mx PV:=fun σ h=>(m σ h).bind newT
theorem aQ(h:MA X es ms):ME X (.List es pos) (aZ ms) :=
 PE.imp (pe_lst h) fun σ H Q ⟨ρ,σp,h,rs,rh,q⟩=>⟨ρ,σp,h,rs,rh,Ful.bind q fun ρ1 H1 x x' h1 _ l1 rh1 rx q1=>iB rh1 rx (newL_f q1)⟩
theorem dr(h:MA X es ms):ME X (.Tuple es j pos) (dY ms) :=
 PE.imp (sd h) fun σ H Q ⟨ρ,σp,h,rs,rh,q⟩=>⟨ρ,σp,h,rs,rh,Ful.bind q fun ρ1 H1 x x' h1 _ l1 rh1 rx q1=>oZ rh1 rx (newT_f q1)⟩
def SOut.then(o:SOut)(k:Mst):SOut:=match o with
 | .nx σ h=>k σ h
 | o=>o
def aF(a b:Mst):Mst:=fun σ h=>(a σ h).then b
def mSkip:Mst:=fun σ h=>.nx σ h
theorem bt:MSs X [] mSkip:=PSs.imp pss_nil fun D σ H ⟨ρ,σp,h,rs,rh,q⟩=>q ρ H σ (Le.refl _ _) rh rs
theorem au{st:Stmt}{m:Mst}(h:MS X st m):MSs X [st] m:=o3 h
theorem bf.then{ρ:List Addr}{H:Hp}{o:SOut}{k:Mst}{D:Ends}(q:bf X ρ H (o.then k) D):bf X ρ H o { D with nx:=fun σ H=>tMS X k D σ H}:=by
 cases o with
 | nx σp h=>exact fun ρ' H' σ' l r s=>⟨ρ',σp,h,s,r,bf.le l q⟩
 | _=>exact q
theorem am{st:Stmt}{rest:List Stmt}{m u:Mst}(h1:MS X st m)(h2:MSs X rest u):MSs X (st::rest) (aF m u) :=
 PSs.imp (t9 h1 h2) fun D σ H ⟨ρ,σp,h,rs,rh,q⟩=>⟨ρ,σp,h,rs,rh,bf.then q⟩
def aV(m:Mx PV):Mst:=fun σ h=>match m σ h with
 | .ok v h'=>.rt v h'
 | .exc x h'=>.exc x σ h'
 | .bad=>.bad
theorem aT(he:ME X e m):MS X (.Return (some e) pos) (aV m) :=
 PS.imp (ps_ret he) fun D σ H ⟨ρ,σp,h,rs,rh,q⟩=>⟨ρ,σp,h,rs,rh,by
  unfold aV at q
  cases e:m σp h with
  | ok v h'=>rw[e] at q;exact q
  | exc x h'=>rw[e] at q;exact q
  | bad=>rw[e] at q;exact q⟩
def mEx{α:Type}(m:Mx α)(k:α->Mst):Mst:=fun σ h=>match m σ h with
 | .ok v h'=>k v σ h'
 | .exc x h'=>.exc x σ h'
 | .bad=>.bad
theorem bf.ex{α β:Type}{R:Rl α β}{m:Mx α}{k:α->Mst}{ρ:List Addr}{H:Hp}{σp:PSt}{h:MH}{D:Ends}{Q:β->Hp->Prop}(q:bf X ρ H (mEx m k σp h) D)
  (w:∀ρ1 H1 v v' h1,Le ρ H ρ1 H1->RH X.K X.mg ρ1 H1 h1->R ρ1 H1 v v'->bf X ρ1 H1 (k v σp h1) D->Q v' H1):Ful X R σp ρ H (m σp h) Q:=by
 unfold mEx at q
 cases e:m σp h with
 | ok v h'=>rw[e] at q;exact fun ρ1 H1 v' l r z=>w ρ1 H1 v v' h' l r z (bf.le l q)
 | exc x h'=>rw[e] at q;exact q
 | bad=>rw[e] at q;exact q
def dH(m:Mx PV):Mst:=mEx m fun _=>mSkip
theorem iD{e:Expr}{m:Mx PV}{pos:Pos}(he:ME X e m)(hs:swapsWith e none pos.line X.env=pure false:=by rfl):MS X (.Expr e pos) (dH m) :=
 PS.imp (ps_expr he hs) fun D σ H ⟨ρ,σp,h,rs,rh,q⟩=>⟨ρ,σp,h,rs,rh,bf.ex q fun ρ1 H1 v v' h1 l r z w=>w ρ1 H1 σ (Le.refl _ _) r (rs.le l)⟩
def mIf(c:Mx Bool)(a b:Mst):Mst:=mEx c fun x=>if x=true then a else b
theorem bQ{c:Expr}{a b:List Stmt}{mc:Mx Bool}{ma mb:Mst}{pos:Pos}(hc:MT X c mc)(ha:MSs X a ma)(hb:MSs X b mb):MS X (.If c a b pos) (mIf mc ma mb) :=
 PS.imp (ps_if hc ha hb) fun D σ H ⟨ρ,σp,h,rs,rh,q⟩=>⟨ρ,σp,h,rs,rh,bf.ex q fun ρ1 H1 v v' h1 l r z w=>by
  cases z
  cases v with
  | true=>rw[qaf rfl];exact⟨ρ1,σp,h1,rs.le l,r,w⟩
  | false=>rw[qai qaI];exact⟨ρ1,σp,h1,rs.le l,r,w⟩⟩
def aO(i:Nat)(m:Mx PV):Mst:=mEx m fun v σ h=>.nx (σ.set i (some v)) h
theorem ms_set(g:Good X N W G k)(i:Nat){x:Str}{e:Expr}{m:Mx PV}{pos pos':Pos}(hi:N[i]?=some x)(hw:W[i]?=some x)(he:ME X e m)(hs:swapsWith e (some (.Name x pos')) pos.line X.env=pure false:=by rfl) :
  MS X (.Assign [.Name x pos'] e pos) (aO i m):=by
 refine PS.imp (sg (X:=X) (i:=i) (by rw[g.hN];exact g.nd) (g.x hi) (g.loc x (aw hi)) he hs (g.fn x (aw hw))) fun D σ H ⟨ρ,σp,h,rs,rh,q⟩=>?_;exact⟨ρ,σp,h,rs,rh,bf.ex q fun ρ1 H1 v v' h1 l r z w=>w ρ1 H1 _ (Le.refl _ _) r ((rs.le l).set i z)⟩
end
end MM
namespace MM
open PySem PySem.Spec PyProof.Rows L2
noncomputable local instance (priority:=1) cdec (p:Prop):Decidable p:=Classical.propDecidable p
section
variable {X:Cx} {N W G:List Str} {k:Nat}
abbrev Mg:=PV->Mst
def i9(X:Cx)(ρ:List Addr)(H:Hp)(o:SOut)(Q:L2.St->Hp->Prop):Prop:=match o with
 | .nx σp h'=>∀ρ' H' σ',Le ρ H ρ' H'->RH X.K X.mg ρ' H' h'->RS X.K ρ' H' σp σ'->Q σ' H'
 | .exc x σp h'=>XP X σp ρ H x h'
 | _=>False
theorem i9.le(l:Le ρ H ρ1 H1)(f:i9 X ρ H o Q):i9 X ρ1 H1 o Q:=by
 cases o with
 | nx σp h=>exact fun ρ' H' v' l'=>f ρ' H' v' (l.trans l')
 | exc x σp h=>exact XP.le (X:=X) (σp:=σp) (x:=x) (h:=h) l f
 | _=>exact f
inductive tG (X:Cx) (g:Mg) (v':V) (σ:L2.St) (H:Hp) (Q:L2.St->Hp->Prop):Prop
 | mk (ρ:List Addr) (σp:PSt) (h:MH) (v:PV) (rs:RS X.K ρ H σp σ) (rh:RH X.K X.mg ρ H h) (rv:RP X.K ρ H v v') (q:i9 X ρ H (g v σp h) Q):tG X g v' σ H Q
def MG(X:Cx)(tg:Expr)(g:Mg):Prop:=PG X tg (tG X g)
theorem PG.imp(h:PG X e t)(i:∀v σ H Q,t' v σ H Q->t v σ H Q):PG X e t':=fun BN s σ H v u Q I r q=>h BN s σ H v u Q I r (i v σ H Q q)
def gNm(i:Nat):Mg:=fun v σ h=>.nx (σ.set i (some v)) h
theorem mg_name(g:Good X N W G k)(i:Nat)(hi:N[i]?=some x)(hw:W[i]?=some x):MG X (.Name x pos) (gNm i) :=
 PG.imp (pr (by rw[g.hN];exact g.nd) (g.x hi) (g.loc x (aw hi)) (g.fn x (aw hw))) fun v' σ H Q ⟨ρ,σp,h,v,rs,rh,rv,q⟩=>q ρ H _ (Le.refl _ _) rh (rs.set i rv)
abbrev Mgs:=List PV->Mst
inductive tGs (X:Cx) (g:Mgs) (v':List V) (σ:L2.St) (H:Hp) (Q:L2.St->Hp->Prop):Prop
 | mk (ρ:List Addr) (σp:PSt) (h:MH) (v:List PV) (rs:RS X.K ρ H σp σ) (rh:RH X.K X.mg ρ H h) (rv:RPs X.K ρ H v v') (q:i9 X ρ H (g v σp h) Q):tGs X g v' σ H Q
def MGs(X:Cx)(tg:List Expr)(g:Mgs):Prop:=PGs X tg (tGs X g)
theorem PGs.imp(h:PGs X e t)(i:∀v σ H Q,t' v σ H Q->t v σ H Q):PGs X e t':=fun BN s σ H v u Q I r q=>h BN s σ H v u Q I r (i v σ H Q q)
def gNl:Mgs:=fun vs σ h=>match vs with
 | []=>.nx σ h
 | _=>.bad
def gCn(a:Mg)(r:Mgs):Mgs:=fun vs σ h=>match vs with
 | v::vr=>(a v σ h).then (r vr)
 | []=>.bad
theorem ii:MGs X [] gNl:=PGs.imp pgs_nil fun v' σ H Q ⟨ρ,σp,h,v,rs,rh,rv,q⟩=>by
 cases rv with
 | nil=>exact⟨rfl,q ρ H σ (Le.refl _ _) rh rs⟩
 | cons _ _=>exact q.elim
theorem b9(h1:MG X e a)(h2:MGs X es r)
  (hs:(assignEach (e::es) X.env).map (·.2)=assign e X.env::(assignEach es X.env).map (·.2):=by rfl):MGs X (e::es) (gCn a r) :=
 PGs.imp (ui h1 h2 hs) fun v' σ H Q ⟨ρ,σp,h,v,rs,rh,rv,q⟩=>by
  cases rv with
  | nil=>exact q.elim
  | @cons x y xs ys rx rr =>
   refine⟨_,_,rfl,ρ,σp,h,x,rs,rh,rx,?_⟩;dsimp only[gCn] at q
   cases e:a x σp h with
   | nx σ1 h1=>rw[e] at q;exact fun ρ' H' σ' l r1 s1=>⟨ρ',σ1,h1,xs,s1,r1,rr.le l,i9.le l q⟩
   | exc x1 σ1 h1=>rw[e] at q;exact q
   | _=>rw[e] at q;exact q
def gTp(r:Mgs)(n:Nat):Mg:=fun v σ h=>match v with
 | .tup xs=>if xs.length=n then r xs σ h else .bad
 | _=>.bad
theorem jA(g:Good X N W G k){es:List Expr}{j:Nat}{r:Mgs}{n:Nat}{pos:Pos}(h:MGs X es r)(hn:(assignEach es X.env).length=n:=by rfl)(hst:(assignEach es X.env).findIdx? (·.1)=none:=by rfl) :
  MG X (.Tuple es j pos) (gTp r n) :=
 PG.imp (pg_tup g.calm h hn hst) fun v' σ H Q ⟨ρ,σp,h,v,rs,rh,rv,q⟩=>by
  cases rv with
  | tup s rr =>
   dsimp only[gTp] at q
   split at q
   ·rename_i hl
    exact⟨_,_,rfl,s,by rw[<-rr.length];exact hl,ρ,σp,h,_,rs,rh,rr,q⟩
   ·exact q.elim
  | _=>exact q.elim
def gO(m:Mx PV)(g:Mg):Mst:=mEx m fun v σ h=>match g v σ h with
 | .nx σ2 h2=>.nx σ2 h2
 | .exc x σ2 h2=>.exc x σ2 h2
 | _=>.bad
theorem jg{tg e:Expr}{m:Mx PV}{g:Mg}{pos:Pos}(he:ME X e m)(hg:MG X tg g)(hs:swapsWithSole [tg] e pos.line X.env=pure false:=by rfl)(hw:swappedStores [tg] e X.env=pure none:=by rfl)
  (h1:(assignEach [tg] X.env).map (·.2)=[assign tg X.env]:=by rfl):MS X (.Assign [tg] e pos) (gO m g) :=
 PS.imp (ps_asg he hg hs hw h1) fun D σ H ⟨ρ,σp,h,rs,rh,q⟩=>⟨ρ,σp,h,rs,rh,bf.ex q fun ρ1 H1 v v' h1 l r z w=>⟨ρ1,σp,h1,v,rs.le l,r,z,by
  cases e:g v σp h1 with
  | nx σ2 h2=>rw[e] at w;exact w
  | exc x σ2 h2=>rw[e] at w;exact w
  | _=>rw[e] at w;exact w⟩⟩
noncomputable def jd(o i v:PV)(h:MH):Option MH:=match o,i with
 | .loc n,.int j=>(match h[n]? with
  | some (.lst xs)=>(ixN xs.length j).map fun p=>h.set n (.lst (xs.set p v))
  | _=>none)
 | _,_=>none
noncomputable def gSb(mo mi:Mx PV):Mg:=fun v=>mEx mo fun o=>mEx mi fun i σ h=>match jd o i v h with
 | some h2=>.nx σ h2
 | none=>.bad
theorem jf(ho:ME X o mo)(hi:ME X i mi)
  (ha:∀v,assign (.Subscript o i pos) X.env v=(do
   let ov <-holding [v] (eval o X.env)
   let iv <-holding [v,ov] (eval i X.env)
   standAt pos
   holding [v,ov,iv] (setItem ov iv v)
   release [v,ov,iv] []):=by intro _;rfl):MG X (.Subscript o i pos) (gSb mo mi) :=
 PG.imp (pg_sub ho hi ud ha) fun v' σ H Q ⟨ρ,σp,h,v,rs,rh,rv,q⟩=>by
  refine⟨ρ,σp,h,rs,rh,?_⟩;unfold gSb mEx at q
  cases e:mo σp h with
  | exc x h1=>rw[e] at q;exact q
  | bad=>rw[e] at q;exact q
  | ok ov h1 =>
   rw[e] at q;intro ρ1 H1 o' l1 rh1 ro;refine⟨ρ1,σp,h1,rs.le l1,rh1,?_⟩;dsimp only at q
   cases e2:mi σp h1 with
   | exc x h2=>rw[e2] at q;exact XP.le (X:=X) (σp:=σp) (x:=x) (h:=h2) l1 q
   | bad=>rw[e2] at q;exact q
   | ok iv h2 =>
    rw[e2] at q;intro ρ2 H2 i' l2 rh2 ri;dsimp only at q;have ro2:=ro.le l2;have rv2:=(rv.le l1).le l2;unfold jd at q
    cases ro2 with
    | @loc n a en =>
     cases ri with
     | int j =>
      dsimp only at q;obtain⟨ob,eo,rob⟩:=rh2.obj en;rw[eo] at q
      cases ob with
      | dic kvs=>exact q.elim
      | exc x=>exact q.elim
      | lst xs =>
       obtain⟨ys,ey,ry⟩:=rob;dsimp only at q
       cases ep:ixN xs.length j with
       | none=>rw[ep] at q;exact q.elim
       | some p =>
        rw[ep] at q;refine⟨a,ys,j,p,rfl,rfl,ey,by rw[<-ry.length];exact ep,?_⟩;obtain⟨r3,l3⟩:=rh2.put en (o:=.lst (xs.set p v)) (ho:=.lst (ys.set p v')) ⟨_,rfl,RPs.set rv2 p ry⟩;exact q ρ2 _ σ (l1.trans (l2.trans l3)) r3 (rs.le (l1.trans (l2.trans l3)))
     | _=>exact q.elim
    | _=>exact q.elim
structure MIt where
 xs:List PV
 gd:List (Nat × List PV):=[]
def MIt.ok(it:MIt)(h:MH):Prop:=∀p∈it.gd,h[p.1]?=some (.lst p.2)
def nu(X:Cx):Rl MIt It:=fun ρ0 H0 it J=>∀ρ H h (i:Nat),Le ρ0 H0 ρ H->RH X.K X.mg ρ H h->it.ok h ->
 (i<it.xs.length->J.go i H/\∀x' H',J.yld i H x' H'->∃ρ' x,Le ρ H ρ' H'/\RH X.K X.mg ρ' H' h/\it.xs[i]?=some x/\RP X.K ρ' H' x x')/\(it.xs.length<=i->J.stop i H)
def MI(X:Cx)(tg iter:Expr)(m:Mx MIt):Prop:=PI X tg iter (tM X (nu X) m)
theorem PI.imp(h:PI X tg e t)(i:∀σ H Q,t' σ H Q->t σ H Q):PI X tg e t':=fun BN s σ H Q I q=>h BN s σ H Q I (i σ H Q q)
noncomputable def mGo(it:MIt)(g:Mg)(b:Mst):List PV->Mst
 | []=>fun σ h=>if it.ok h then .nx σ h else .bad
 | x::r=>fun σ h=>if it.ok h then (match g x σ h with
   | .nx σ1 h1=>(match b σ1 h1 with
    | .nx σ2 h2=>mGo it g b r σ2 h2
    | .ct σ2 h2=>mGo it g b r σ2 h2
    | .bk σ2 h2=>.nx σ2 h2
    | .rt v h2=>.rt v h2
    | .exc e σ2 h2=>.exc e σ2 h2
    | .rse e σ2 h2=>.rse e σ2 h2
    | .bad=>.bad)
   | .exc e σ1 h1=>.exc e σ1 h1
   | _=>.bad) else .bad
noncomputable def gM(mi:Mx MIt)(g:Mg)(b:Mst):Mst:=mEx mi fun it=>mGo it g b it.xs
theorem gU(gd:Good X N W G k)(hi:MI X tg iter mi)(hg:MG X tg g)(hb:MSs X body mb)
  (hs:∀x,foldedSetIterable iter X.env x=pure x:=by intro _;rfl):MS X (.For tg iter body [] pos) (gM mi g mb):=by
 refine PS.imp (ps_for gd.po gd.calm hi hg hb hs) fun D σ H ⟨ρ,σp,h,rs,rh,q⟩=>⟨ρ,σp,h,rs,rh,bf.ex q fun ρ1 H1 it J h1 l1 rh1 jr w=>?_⟩;refine⟨fun i m σ H=>m=it.xs.length - i/\i<=it.xs.length/\∃ρ σp h,Le ρ1 H1 ρ H/\RS X.K ρ H σp σ/\RH X.K X.mg ρ H h/\bf X ρ H (mGo it g mb (it.xs.drop i) σp h) D,⟨_,rfl,qaG _,ρ1,σp,h1,Le.refl _ _,rs.le l1,rh1,w⟩,?_⟩;rintro i m σ2 H2 ⟨rfl,hi,ρ2,σp2,h2,l2,rs2,rh2,w2⟩;by_cases hlt:i<it.xs.length
 ·have ed:it.xs.drop i=it.xs[i]::it.xs.drop (i+1):=qaQ hlt;rw[ed] at w2;unfold mGo at w2
  split at w2
  ·rename_i hok
   obtain⟨j1,j2⟩:=jr ρ2 H2 h2 i l2 rh2 hok;obtain⟨go,yl⟩:=j1 hlt;refine .inr ⟨go,fun σ3 H3=>∃ρ3 σp3 h3,Le ρ1 H1 ρ3 H3/\RS X.K ρ3 H3 σp3 σ3/\RH X.K X.mg ρ3 H3 h3/\bf X ρ3 H3 (mGo it g mb (it.xs.drop (i+1)) σp3 h3) D,fun σ3 H3 z=>⟨_,by omega,rfl,hlt,z⟩,fun x' H' y=>?_⟩;obtain⟨ρ',x,l',rh',ex,rx⟩:=yl x' H' y;have ex':x=it.xs[i]:=by rw[qaB hlt] at ex;exact (Option.some.inj ex).symm
   subst ex';refine⟨ρ',σp2,h2,_,rs2.le l',rh',rx,?_⟩;have w2':=bf.le l' w2
   cases eg:g it.xs[i] σp2 h2 with
   | nx σ4 h4 =>
    rw[eg] at w2';intro ρ5 H5 σ5 l5 r5 s5;refine⟨ρ5,σ4,h4,s5,r5,?_⟩;have w3:=bf.le l5 w2';have l6:Le ρ1 H1 ρ5 H5:=l2.trans (l'.trans l5);dsimp only at w3
    cases em:mb σ4 h4 with
    | nx σ6 h6=>rw[em] at w3;exact fun ρ7 H7 σ7 l7 r7 s7=>⟨ρ7,σ6,h6,l6.trans l7,s7,r7,bf.le l7 w3⟩
    | ct σ6 h6=>rw[em] at w3;exact fun ρ7 H7 σ7 l7 r7 s7=>⟨ρ7,σ6,h6,l6.trans l7,s7,r7,bf.le l7 w3⟩
    | bk σ6 h6=>rw[em] at w3;exact w3
    | rt v h6=>rw[em] at w3;exact w3
    | exc e σ6 h6=>rw[em] at w3;exact w3
    | rse e σ6 h6=>rw[em] at w3;exact w3
    | bad=>rw[em] at w3;exact w3
   | exc e σ4 h4=>rw[eg] at w2';exact w2'
   | _=>rw[eg] at w2';exact w2'.elim
  ·exact w2.elim
 ·have e:i=it.xs.length:=by omega
  rw[e,List.drop_length] at w2;unfold mGo at w2
  split at w2
  ·rename_i hok
   obtain⟨j1,j2⟩:=jr ρ2 H2 h2 i l2 rh2 hok;exact .inl ⟨j2 (by omega),w2 ρ2 H2 σ2 (Le.refl _ _) rh2 rs2⟩
  ·exact w2.elim
noncomputable def itSeq(v:PV)(h:MH):Out MIt:=match v with
 | .loc n=>(match h[n]? with
  | some (.lst xs)=>.ok ⟨xs,[(n,xs)]⟩ h
  | _=>.bad)
 | .frl xs=>.ok ⟨xs,[]⟩ h
 | _=>.bad
noncomputable def mItL(m:Mx PV):Mx MIt:=fun σ h=>(m σ h).bind itSeq
theorem pK(hS:∀ρ' H' h,Le ρ H ρ' H'->RH X.K X.mg ρ' H' h->(⟨xs,gd⟩:MIt).ok h->∃ys,SqL X.K H' a ys/\RPs X.K ρ' H' xs ys):nu X ρ H ⟨xs,gd⟩ (Itl X.K a):=by
 intro ρ' H' h i l rh ok;obtain⟨ys,hs,rs⟩:=hS ρ' H' h l rh ok;refine⟨fun hi=>?_,fun hi=>⟨ys,hs,by rw[<-rs.length];exact hi⟩⟩;have hx:xs[i]?=some (xs[i]'hi):=qaB hi;obtain⟨y,ey,ry⟩:=rs.get hx;refine⟨⟨ys,y,hs,ey⟩,fun x' H2 ⟨e,z⟩=>?_⟩;subst e
 have:ys[i]?=some x':=z ys hs
 rw[ey] at this;cases this;exact⟨ρ',_,Le.refl _ _,rh,hx,ry⟩
theorem mi_list(hl:ME X l m):MI X tg l (mItL m) :=
 PI.imp (pi_list hl) fun σ H Q ⟨ρ,σp,h,rs,rh,q⟩=>⟨ρ,σp,h,rs,rh,Ful.bind q fun ρ1 H1 x x' h1 _ l1 rh1 rx q1=>by
  cases rx with
  | @loc n a e =>
   obtain⟨ob,eo,rob⟩:=rh1.obj e;dsimp only[itSeq] at q1;rw[eo] at q1
   cases ob with
   | dic kvs=>exact q1.elim
   | exc x=>exact q1.elim
   | lst xs =>
    obtain⟨ys,ey,ry⟩:=rob;refine⟨a,rfl,⟨ys,SqL.of ey⟩,q1 ρ1 H1 _ (Le.refl _ _) rh1 (pK fun ρ' H' h' l rh' ok=>?_)⟩;obtain⟨ys',ey',ry'⟩:=rh'.at' n a _ (l.get e) (ok (n,xs) (by simp));exact⟨ys',SqL.of ey',ry'⟩
  | frl s r =>
   exact⟨_,rfl,⟨_,s.sq⟩,q1 ρ1 H1 _ (Le.refl _ _) rh1 (pK fun ρ' H' h' l rh' ok=>⟨_,(l.sqf s).sq,r.le l⟩)⟩
  | _=>exact q1.elim⟩
noncomputable def mItT(m:Mx PV):Mx MIt:=fun σ h=>(m σ h).bind fun v h1=>match v with
 | .tup xs=>.ok ⟨xs,[]⟩ h1
 | _=>.bad
theorem mi_tup(hl:ME X l m):MI X tg l (mItT m) :=
 PI.imp (pi_tup hl) fun σ H Q ⟨ρ,σp,h,rs,rh,q⟩=>⟨ρ,σp,h,rs,rh,Ful.bind q fun ρ1 H1 x x' h1 _ l1 rh1 rx q1=>by
  cases rx with
  | @tup xs a ys s r =>
   refine⟨_,rfl,⟨_,s⟩,q1 ρ1 H1 _ (Le.refl _ _) rh1 ?_⟩;intro ρ' H' h' i l rh' ok;have s':=l.sqt s;have r':=r.le l;refine⟨fun hi=>?_,fun hi=>⟨ys,s',by rw[<-r.length];exact hi⟩⟩;have hx:xs[i]?=some (xs[i]'hi):=qaB hi;obtain⟨y,ey,ry⟩:=r'.get hx;refine⟨⟨ys,y,s',ey⟩,fun x' H2 ⟨e,z⟩=>?_⟩;subst e
   have:ys[i]?=some x':=z ys s'
   rw[ey] at this;cases this;exact⟨ρ',_,Le.refl _ _,rh',hx,ry⟩
  | _=>exact q1.elim⟩
def bq(lo:Int)(n:Nat):List PV:=(List.range n).map fun (i:Nat)=>PV.int (lo+(i:Int))
theorem qX(lo:Int)(n:Nat):(bq lo n).length=n:=by simp[bq]
theorem Itr_rel(lo:Int)(n:Nat):nu X ρ H ⟨bq lo n,[]⟩ (Itr lo n):=by
 intro ρ' H' h i l rh ok;have hl:(bq lo n).length=n:=qX lo n;refine⟨fun hi=>⟨by rw[hl] at hi;exact hi,fun x' H2 ⟨e1,e2⟩=>?_⟩,fun hi=>by rw[hl] at hi;exact hi⟩;subst e1;subst e2;rw[hl] at hi;exact⟨ρ',.int (lo+i),Le.refl _ _,rh,by simp[bq,hi],.int _⟩
noncomputable def gc(m:Mx (List PV)):Mx MIt:=fun σ h=>(m σ h).bind fun vs h1=>match vs with
 | [.int j]=>if -(2 ^ 62)<=j/\j<2 ^ 62 then .ok ⟨bq 0 j.toNat,[]⟩ h1 else .bad
 | _=>.bad
theorem sL(hg:Gl X "range")(hm:X.mg "range"=none)(ha:MA X [a] m)(hs:starEach [a] X.env=[(false,eval a X.env)]:=by rfl):MI X tg (.Call (.Name "range" p) [a] [] pos) (gc m):=by
 refine PI.imp (rA hg hm ha hs) fun σ H Q ⟨ρ,σp,h,rs,rh,q⟩=>⟨ρ,σp,h,rs,rh,Ful.bind q fun ρ1 H1 x x' h1 _ l1 rh1 rx q1=>?_⟩
 cases rx with
 | nil=>exact q1.elim
 | cons r1 t1 =>
  cases t1 with
  | nil =>
   cases r1 with
   | int j =>
    dsimp only at q1
    split at q1
    ·rename_i hj
     exact⟨j,rfl,hj.1,hj.2,q1 ρ1 H1 _ (Le.refl _ _) rh1 (Itr_rel 0 j.toNat)⟩
    ·exact q1.elim
   | _=>exact q1.elim
  | cons r2 t2=>cases r1 <;> exact q1.elim
def bw(c:Mx Bool)(b:Mst):Nat->Mst
 | 0=>fun _ _=>.bad
 | n+1=>mEx c fun x=>if x=true then (fun σ h=>match b σ h with
   | .nx σ2 h2=>bw c b n σ2 h2
   | .ct σ2 h2=>bw c b n σ2 h2
   | .bk σ2 h2=>.nx σ2 h2
   | .rt v h2=>.rt v h2
   | .exc e σ2 h2=>.exc e σ2 h2
   | .rse e σ2 h2=>.rse e σ2 h2
   | .bad=>.bad) else mSkip
noncomputable def mWh(c:Mx Bool)(b:Mst):Mst:=fun σ h=>if z:∃n,bw c b n σ h≠.bad then bw c b (Classical.choose z) σ h else .bad
theorem gP:∀{n:Nat} {σ:PSt} {h:MH},bw c b n σ h≠.bad->bw c b (n+1) σ h=bw c b n σ h
 | 0,_,_,q=>absurd rfl q
 | n+1,σ,h,q=>by
  rw[bw] at q
  conv=>lhs;rw[bw]
  conv=>rhs;rw[bw]
  unfold mEx at q ⊢
  cases e:c σ h with
  | exc x h1=>rfl
  | bad=>rfl
  | ok x h1 =>
   rw[e] at q;dsimp only at q ⊢
   cases x with
   | false=>rfl
   | true =>
    simp only[if_true] at q ⊢
    cases em:b σ h1 with
    | nx σ2 h2=>rw[em] at q;exact gP q
    | ct σ2 h2=>rw[em] at q;exact gP q
    | _=>rfl
theorem pk(q:bw c b n σ h≠.bad)(l:n<=m):bw c b m σ h=bw c b n σ h:=by
 induction l with
 | refl=>rfl
 | step l ih=>rw[gP (by rw[ih];exact q),ih]
theorem mWh_of(q:bw c b n σ h≠.bad):mWh c b σ h=bw c b n σ h:=by
 have z:∃n,bw c b n σ h≠.bad:=⟨n,q⟩;unfold mWh;rw[dif_pos z];have q2:=Classical.choose_spec z;rcases Nat.le_total n (Classical.choose z) with l|l
 ·exact pk q l
 ·exact (pk q2 l).symm
theorem uF(gd:Good X N W G k)(hc:MT X c mc)(hb:MSs X body mb):MS X (.While c body [] pos) (mWh mc mb):=by
 refine PS.imp (tj gd.po hc hb) fun D σ H ⟨ρ,σp,h,rs,rh,q⟩=>?_;refine⟨fun m σ H=>∃ρ σp h,RS X.K ρ H σp σ/\RH X.K X.mg ρ H h/\bf X ρ H (bw mc mb m σp h) D,?_,?_⟩
 ·unfold mWh at q
  split at q
  ·exact⟨_,ρ,σp,h,rs,rh,q⟩
  ·exact q.elim
 ·rintro m σ1 H1 ⟨ρ1,σp1,h1,rs1,rh1,q1⟩
  cases m with
  | zero=>exact q1.elim
  | succ m =>
   rw[bw] at q1;refine⟨ρ1,σp1,h1,rs1,rh1,bf.ex q1 fun ρ2 H2 v v' h2 l2 r2 z w=>?_⟩;cases z
   cases v with
   | false=>rw[qai qaI] at w ⊢;exact w ρ2 H2 σ1 (Le.refl _ _) r2 (rs1.le l2)
   | true =>
    rw[qaf rfl] at w ⊢;refine⟨fun σ H=>∃ρ σp h,RS X.K ρ H σp σ/\RH X.K X.mg ρ H h/\bf X ρ H (bw mc mb m σp h) D,fun σ' H' z=>⟨m,qbT _,z⟩,ρ2,σp1,h2,rs1.le l2,r2,?_⟩
    cases em:mb σp1 h2 with
    | nx σ6 h6=>rw[em] at w;exact fun ρ7 H7 σ7 l7 r7 s7=>⟨ρ7,σ6,h6,s7,r7,bf.le l7 w⟩
    | ct σ6 h6=>rw[em] at w;exact fun ρ7 H7 σ7 l7 r7 s7=>⟨ρ7,σ6,h6,s7,r7,bf.le l7 w⟩
    | bk σ6 h6=>rw[em] at w;exact w
    | rt v h6=>rw[em] at w;exact w
    | exc e σ6 h6=>rw[em] at w;exact w
    | rse e σ6 h6=>rw[em] at w;exact w
    | bad=>rw[em] at w;exact w
end
section
variable {X:Cx} {N W G:List Str} {k:Nat}
def bB(f:PV->Option PyData):List PV->Option (List PyData)
 | []=>some []
 | x::r=>match f x,bB f r with
  | some d,some ds=>some (d::ds)
  | _,_=>none
def rd:Nat->MH->PV->Option PyData
 | 0,_,v=>(match v with
  | .non=>some .none
  | .bl b=>some (.bool b)
  | .int i=>some (.int i)
  | .str x=>some (.str x)
  | _=>none)
 | n+1,h,v=>(match v with
  | .non=>some .none
  | .bl b=>some (.bool b)
  | .int i=>some (.int i)
  | .str x=>some (.str x)
  | .tup xs=>(bB (rd n h) xs).map PyData.tuple
  | .frl xs=>(bB (rd n h) xs).map PyData.list
  | .loc m=>(match h[m]? with
   | some (.lst xs)=>(bB (rd n h) xs).map PyData.list
   | _=>none))
theorem dl{hp:Heap}{f:PV->Option PyData}{K:qaa}{ρ:List Addr}{H:Hp}(hf:∀v v' u d,RP K ρ H v v'->aK v' u->f v=some d->∃as,Reads hp u d as) :
  ∀{xs:List PV} {ys:List V} {us:List Value} {ds:List PyData},RPs K ρ H xs ys->ar ys us->bB f xs=some ds->∃as,ReadsAll hp us ds as:=by
 intro xs
 induction xs with
 | nil =>
  intro ys us ds r v e;cases r;cases v;cases e;exact⟨_,.nil⟩
 | cons x xs ih =>
  intro ys us ds r v e;cases r with|cons r t=>cases v with|cons v w =>
  simp only[bB] at e
  split at e
  ·rename_i d ds' e1 e2
   cases e;obtain⟨a1,q1⟩:=hf _ _ _ _ r v e1;obtain⟨a2,q2⟩:=ih t w e2;exact⟨_,.cons q1 q2⟩
  ·cases e
theorem de{BN:List (Addr × Obj)}{σ:L2.St}{H:Hp}{s:Shared}{ρ:List Addr}{h:MH}(I:Inv X BN σ H s)(rh:RH X.K X.mg ρ H h) :
  ∀(n:Nat) (v:PV) (v':V) (u:Value) (d:PyData),RP X.K ρ H v v'->aK v' u->rd n h v=some d->∃as,Reads s.heap u d as:=by
 intro n
 induction n with
 | zero =>
  intro v v' u d rp r e
  cases rp with
  | non=>cases e;cases r;exact⟨_,.none⟩
  | bl b=>cases e;cases r;exact⟨_,.bool b⟩
  | int i=>cases e;obtain⟨t,rfl⟩:=r;exact⟨_,.int i t⟩
  | str i=>cases e;obtain⟨t,rfl⟩:=r;exact⟨_,.str i t⟩
  | _=>cases e
 | succ n ih =>
  intro v v' u d rp r e
  cases rp with
  | non=>cases e;cases r;exact⟨_,.none⟩
  | bl b=>cases e;cases r;exact⟨_,.bool b⟩
  | int i=>cases e;obtain⟨t,rfl⟩:=r;exact⟨_,.int i t⟩
  | str i=>cases e;obtain⟨t,rfl⟩:=r;exact⟨_,.str i t⟩
  | @tup xs a ys s rr =>
   cases r;simp only[rd] at e
   cases q:bB (rd n h) xs with
   | none=>rw[q] at e;cases e
   | some ds =>
    rw[q] at e;cases e;obtain⟨its,rv,⟨o,e1,e2,m,e3⟩,_⟩:=I.tuple s;obtain⟨as,ra⟩:=dl (ih) rr rv q;exact⟨_,.tuple e1 e2 e3 (by simpa using ra)⟩
  | @frl xs a ys s rr =>
   cases r;simp only[rd] at e
   cases q:bB (rd n h) xs with
   | none=>rw[q] at e;cases e
   | some ds =>
    rw[q] at e;cases e;obtain⟨its,rv,⟨o,m,e1,e2,_,e3⟩,_⟩:=I.list s.sq;obtain⟨as,ra⟩:=dl (ih) rr rv q;exact⟨_,.list e1 e2 e3 (by simpa using ra)⟩
  | loc en =>
   cases r;simp only[rd] at e;obtain⟨ob,eo,rob⟩:=rh.obj en;rw[eo] at e
   cases ob with
   | dic kvs=>cases e
   | exc x=>cases e
   | lst xs =>
    obtain⟨ys,ey,ry⟩:=rob;dsimp only at e
    cases q:bB (rd n h) xs with
    | none=>rw[q] at e;cases e
    | some ds =>
     rw[q] at e;cases e;obtain⟨its,rv,⟨o,m',e1,e2,_,e3⟩,_⟩:=I.list (SqL.of (K:=X.K) ey);obtain⟨as,ra⟩:=dl (ih) ry rv q;exact⟨_,.list e1 e2 e3 (by simpa using ra)⟩
noncomputable def opEq(x y:PV)(h:MH):Out PV:=match rd 60 h x,rd 60 h y with
 | some a,some b=>if SeqAt.shaped a=true/\SeqAt.shaped b=true then .ok (.bl (PyData.eqv a b)) h else .bad
 | _,_=>.bad
noncomputable def opNe(x y:PV)(h:MH):Out PV:=match rd 60 h x,rd 60 h y with
 | some a,some b=>if SeqAt.shaped a=true/\SeqAt.shaped b=true then .ok (.bl (!PyData.eqv a b)) h else .bad
 | _,_=>.bad
theorem jM(hr:Room k X.A):OpJ X (compareOp .Eq) opEq:=by
 intro BN s σ H x' y' u v Q I rx' ry' ⟨ρ,h,x,y,rh,rx,ry,q⟩;unfold opEq at q
 split at q
 ·rename_i a b ea eb
  split at q
  ·rename_i hs
   obtain⟨_,ra⟩:=de I rh 60 x x' u a rx rx' ea;obtain⟨_,rb⟩:=de I rh 60 y y' v b ry ry' eb;exact eq_dataH ra rb hs.1 hs.2 hr.units ⟨.bl _,H,I,rfl,q ρ H _ (Le.refl _ _) rh (.bl _)⟩
  ·exact q.elim
 ·exact q.elim
theorem im(hr:Room k X.A):OpJ X (compareOp .NotEq) opNe:=by
 intro BN s σ H x' y' u v Q I rx' ry' ⟨ρ,h,x,y,rh,rx,ry,q⟩;unfold opNe at q
 split at q
 ·rename_i a b ea eb
  split at q
  ·rename_i hs
   obtain⟨_,ra⟩:=de I rh 60 x x' u a rx rx' ea;obtain⟨_,rb⟩:=de I rh 60 y y' v b ry ry' eb;exact ne_dataH ra rb hs.1 hs.2 hr.units ⟨.bl _,H,I,rfl,q ρ H _ (Le.refl _ _) rh (.bl _)⟩
  ·exact q.elim
 ·exact q.elim
def iX(f:Int->Int->PV):PV->PV->MH->Out PV:=fun x y h=>match x,y with
 | .int i,.int j=>.ok (f i j) h
 | _,_=>.bad
theorem jP(ho:OpR X F (rI0 f))(hfg:∀ρ H i j,RP X.K ρ H (g i j) (f i j)):OpJ X F (iX g):=by
 intro BN s σ H x' y' u v Q I rx' ry' ⟨ρ,h,x,y,rh,rx,ry,q⟩;unfold iX at q
 split at q
 ·cases rx;cases ry;exact ho BN s σ H _ _ u v Q I rx' ry' ⟨_,_,rfl,rfl,q ρ H _ (Le.refl _ _) rh (hfg ρ H _ _)⟩
 ·exact q.elim
noncomputable def opLt:=iX fun i j=>.bl (decide (i<j))
noncomputable def opLe:=iX fun i j=>.bl (decide (i<=j))
noncomputable def opGt:=iX fun i j=>.bl (decide (j<i))
noncomputable def opGe:=iX fun i j=>.bl (decide (j<=i))
theorem lT:OpJ X (compareOp .Lt) opLt:=jP op_lt fun _ _ _ _=>.bl _
theorem oj_le:OpJ X (compareOp .LtE) opLe:=jP op_le fun _ _ _ _=>.bl _
theorem jk:OpJ X (compareOp .Gt) opGt:=jP op_gt fun _ _ _ _=>.bl _
theorem oj_ge:OpJ X (compareOp .GtE) opGe:=jP op_ge fun _ _ _ _=>.bl _
def kK(neg:Bool):PV->PV->MH->Out PV:=fun x y h=>match y with
 | .non=>(match x with
  | .non=>.ok (.bl (!neg)) h
  | _=>.ok (.bl neg) h)
 | .bl b=>(match x with
  | .bl c=>.ok (.bl (if neg then !(c == b) else c == b)) h
  | .non=>.ok (.bl neg) h
  | .int _=>.ok (.bl neg) h
  | .str _=>.ok (.bl neg) h
  | .tup _=>.ok (.bl neg) h
  | _=>.bad)
 | _=>.bad
noncomputable def opMul(x y:PV)(h:MH):Out PV:=match x,y with
 | .int i,.int j=>if IntMulOk i j then .ok (.int (i * j)) h else .bad
 | .loc n,.int j=>(match h[n]? with
  | some (.lst xs)=>if -(2 ^ 63)<=j/\j<2 ^ 63 then newL (List.flatten (List.replicate j.toNat xs)) h else .bad
  | _=>.bad)
 | _,_=>.bad
noncomputable def opFd(x y:PV)(h:MH):Out PV:=match x,y with
 | .int i,.int j=>if j≠0/\Builtin.divisionGoesByPylong i j=false then .ok (.int (i.fdiv j)) h else .bad
 | _,_=>.bad
noncomputable def opMod(x y:PV)(h:MH):Out PV:=match x,y with
 | .int i,.int j=>if j≠0 then .ok (.int (i.fmod j)) h else .bad
 | _,_=>.bad
noncomputable def opPow(x y:PV)(h:MH):Out PV:=match x,y with
 | .int i,.int j=>if fe i j then .ok (.int (i ^ j.toNat)) h else .bad
 | _,_=>.bad
noncomputable def opAdd(x y:PV)(h:MH):Out PV:=match x,y with
 | .int i,.int j=>.ok (.int (i+j)) h
 | .str a,.str b=>if a.length+b.length<=sizeLine then .ok (.str (a++b)) h else .bad
 | .loc n,.loc m=>(match h[n]?,h[m]? with
  | some (.lst xs),some (.lst ys)=>newL (xs++ys) h
  | _,_=>.bad)
 | .tup xs,.tup ys=>if xs≠[] then newT (xs++ys) h else .bad
 | _,_=>.bad
noncomputable def opSub:=iX fun i j=>.int (i - j)
def opNeg(x:PV)(h:MH):Out PV:=match x with
 | .int i=>.ok (.int (-i)) h
 | _=>.bad
theorem jh:OpJ X (binaryOp .Sub) opSub:=jP op_sub fun _ _ _ _=>.int _
theorem sQ:UnJ X (unaryOp .USub) opNeg:=by
 intro BN s σ H x' u Q I rx' ⟨ρ,h,x,rh,rx,q⟩
 cases rx with
 | int i=>exact un_neg BN s σ H _ u Q I rx' ⟨i,rfl,q ρ H _ (Le.refl _ _) rh (.int _)⟩
 | _=>exact q.elim
theorem oj_fd:OpJ X (binaryOp .FloorDiv) opFd:=by
 intro BN s σ H x' y' u v Q I rx' ry' ⟨ρ,h,x,y,rh,rx,ry,q⟩;unfold opFd at q
 split at q
 ·rename_i i j
  cases rx;cases ry
  split at q
  ·rename_i hc
   obtain⟨t,rfl⟩:=rx';obtain⟨t',rfl⟩:=ry';exact floordiv_int hc.1 ⟨.int _,H,I.tok _,⟨_,rfl⟩,q ρ H _ (Le.refl _ _) rh (.int _)⟩ (.inl hc.2)
  ·exact q.elim
 ·exact q.elim
theorem cA:OpJ X (binaryOp .Mod) opMod:=by
 intro BN s σ H x' y' u v Q I rx' ry' ⟨ρ,h,x,y,rh,rx,ry,q⟩;unfold opMod at q
 split at q
 ·rename_i i j
  cases rx;cases ry
  split at q
  ·rename_i hc
   obtain⟨t,rfl⟩:=rx';obtain⟨t',rfl⟩:=ry';exact mod_int' hc ⟨.int _,H,I.tok _,⟨_,rfl⟩,q ρ H _ (Le.refl _ _) rh (.int _)⟩
  ·exact q.elim
 ·exact q.elim
theorem sR:OpJ X (binaryOp .Pow) opPow:=by
 intro BN s σ H x' y' u v Q I rx' ry' ⟨ρ,h,x,y,rh,rx,ry,q⟩;unfold opPow at q
 split at q
 ·rename_i i j
  cases rx;cases ry
  split at q
  ·rename_i hc
   exact op_pow BN s σ H _ _ u v Q I rx' ry' ⟨i,j,rfl,rfl,hc,q ρ H _ (Le.refl _ _) rh (.int _)⟩
  ·exact q.elim
 ·exact q.elim
theorem aL:OpJ X (binaryOp .Add) opAdd:=by
 intro BN s σ H x' y' u v Q I rx' ry' ⟨ρ,h,x,y,rh,rx,ry,q⟩
 cases rx with
 | int i =>
  cases ry with
  | int j=>exact op_add BN s σ H _ _ u v Q I rx' ry' ⟨i,j,rfl,rfl,q ρ H _ (Le.refl _ _) rh (.int _)⟩
  | _=>exact q.elim
 | str a =>
  cases ry with
  | str b =>
   dsimp only[opAdd] at q
   split at q
   ·rename_i hl
    exact qQ BN s σ H _ _ u v Q I rx' ry' ⟨a,b,rfl,rfl,hl,q ρ H _ (Le.refl _ _) rh (.str _)⟩
   ·exact q.elim
  | _=>exact q.elim
 | @loc n a e =>
  cases ry with
  | @loc m b e2 =>
   dsimp only[opAdd] at q;obtain⟨o1,h1,r1⟩:=rh.obj e;obtain⟨o2,h2,r2⟩:=rh.obj e2;rw[h1,h2] at q
   cases o1 with
   | dic kvs=>exact q.elim
   | exc x=>exact q.elim
   | lst xs =>
    cases o2 with
    | dic kvs=>exact q.elim
    | exc x=>exact q.elim
    | lst ys =>
     obtain⟨xs',ex,rx1⟩:=r1;obtain⟨ys',ey,ry1⟩:=r2;obtain⟨z1,z2⟩:=iB rh (rx1.append ry1) q;exact op_cat BN s σ H _ _ u v Q I rx' ry' ⟨a,b,xs',ys',rfl,rfl,ex,ey,by rw[<-qaN];exact z1,z2⟩
  | _=>exact q.elim
 | tup s1 r1 =>
  cases ry with
  | tup s2 r2 =>
   dsimp only[opAdd] at q
   split at q
   ·rename_i hne
    obtain⟨z1,z2⟩:=oZ rh (r1.append r2) q;refine op_catT BN s σ H _ _ u v Q I rx' ry' ⟨_,_,_,_,rfl,rfl,s1,s2,?_,by rw[<-qaN];exact z1,fun z=>?_,fun _=>z2⟩
    ·rintro rfl;cases r1;exact hne rfl
    ·subst z;cases r2;unfold newT at q
     split at q
     ·exact q ρ H _ (Le.refl _ _) rh (by rw[qbJ];exact .tup s1 r1)
     ·exact q.elim
   ·exact q.elim
  | _=>exact q.elim
 | _=>cases ry <;> exact q.elim
theorem RPs.rep{K:qaa}{ρ:List Addr}{H:Hp}{xs:List PV}{ys:List V}(r:RPs K ρ H xs ys):∀n:Nat,RPs K ρ H (List.replicate n xs).flatten (List.replicate n ys).flatten
 | 0=>.nil
 | n+1=>by rw[qbe,qbe,qbo,qbo];exact r.append (RPs.rep r n)
end
section
variable {X:Cx} {N W G:List Str} {k:Nat}
theorem d8:OpJ X (binaryOp .Mult) opMul:=by
 intro BN s σ H x' y' u v Q I rx' ry' ⟨ρ,h,x,y,rh,rx,ry,q⟩
 cases rx with
 | int i =>
  cases ry with
  | int j =>
   dsimp only[opMul] at q
   split at q
   ·rename_i hc
    obtain⟨t,rfl⟩:=rx';obtain⟨t',rfl⟩:=ry';exact PyProof.Rows.mul_int ⟨.int _,H,I.tok _,⟨_,rfl⟩,q ρ H _ (Le.refl _ _) rh (.int _)⟩ hc
   ·exact q.elim
  | _=>exact q.elim
 | @loc n a e =>
  cases ry with
  | int j =>
   dsimp only[opMul] at q;obtain⟨o1,h1,r1⟩:=rh.obj e;rw[h1] at q
   cases o1 with
   | dic kvs=>exact q.elim
   | exc x=>exact q.elim
   | lst xs =>
    dsimp only at q
    split at q
    ·rename_i hj
     obtain⟨xs',ex,rx1⟩:=r1;obtain⟨z1,z2⟩:=iB rh (rx1.rep j.toNat) q;refine op_rep BN s σ H _ _ u v Q I rx' ry' ⟨a,j,xs',rfl,rfl,ex,hj.1,hj.2,?_,z2⟩;rw[pN] at z1;rw[Nat.mul_comm];exact z1
    ·exact q.elim
  | _=>exact q.elim
 | _=>cases ry <;> exact q.elim
theorem jY{BN:List (Addr × Obj)}{σ:L2.St}{H:Hp}{s:Shared}{Q:VK}{x':V}{u:Value}{b c:Bool}(I:Inv X BN σ H s)(r:aK x' u)(hp:plainIs u (.bool b)=true)(hc:(u == .bool b)=c)(q:Q (.bl c) H) :
  wpAny (model X.prog X.w) X.A (compareOp .Is u (.bool b)) (EP X BN σ Q) X.xe s:=by
 show wpAny _ _ (do return Value.bool (<-isSame u (.bool b))) _ _ _;exact qah (wpAny_isSame_plain hp (qaw (by rw[hc];exact⟨.bl c,H,I,rfl,q⟩)))
theorem hU{BN:List (Addr × Obj)}{σ:L2.St}{H:Hp}{s:Shared}{Q:VK}{x':V}{u:Value}{b c:Bool}(I:Inv X BN σ H s)(r:aK x' u)(hp:plainIs u (.bool b)=true)(hc:(!(u == .bool b))=c)(q:Q (.bl c) H) :
  wpAny (model X.prog X.w) X.A (compareOp .IsNot u (.bool b)) (EP X BN σ Q) X.xe s:=by
 show wpAny _ _ (do return Value.bool (!(<-isSame u (.bool b)))) _ _ _;exact qah (wpAny_isSame_plain hp (qaw (by rw[hc];exact⟨.bl c,H,I,rfl,q⟩)))
theorem oj_is:OpJ X (compareOp .Is) (kK false):=by
 intro BN s σ H x' y' u v Q I rx' ry' ⟨ρ,h,x,y,rh,rx,ry,q⟩
 cases ry with
 | non =>
  refine op_isN BN s σ H _ _ u v Q I rx' ry' ⟨rfl,?_⟩;cases rx <;> exact q ρ H _ (Le.refl _ _) rh (by first | exact .bl true | exact .bl false)
 | bl b =>
  cases ry'
  cases rx with
  | non=>cases rx';exact jY (x':=.non) (c:=false) I rfl (by cases b <;> rfl) (by cases b <;> rfl) (q ρ H _ (Le.refl _ _) rh (.bl false))
  | bl c=>cases rx';exact jY (x':=.bl c) (c:=c == b) I rfl (by cases b <;> cases c <;> rfl) (by cases b <;> cases c <;> rfl) (q ρ H _ (Le.refl _ _) rh (.bl _))
  | int i=>obtain⟨t,rfl⟩:=rx';exact jY (x':=.int i) (c:=false) I ⟨_,rfl⟩ (by cases b <;> rfl) (by cases b <;> rfl) (q ρ H _ (Le.refl _ _) rh (.bl false))
  | str i=>obtain⟨t,rfl⟩:=rx';exact jY (x':=.str i) (c:=false) I ⟨_,rfl⟩ (by cases b <;> rfl) (by cases b <;> rfl) (q ρ H _ (Le.refl _ _) rh (.bl false))
  | tup s1 r1=>cases rx';exact jY (x':=.ref _) (c:=false) I rfl (by cases b <;> rfl) (by cases b <;> rfl) (q ρ H _ (Le.refl _ _) rh (.bl false))
  | _=>exact q.elim
 | _=>exact q.elim
theorem oj_isn:OpJ X (compareOp .IsNot) (kK true):=by
 intro BN s σ H x' y' u v Q I rx' ry' ⟨ρ,h,x,y,rh,rx,ry,q⟩
 cases ry with
 | non =>
  refine op_notN BN s σ H _ _ u v Q I rx' ry' ⟨rfl,?_⟩;cases rx <;> exact q ρ H _ (Le.refl _ _) rh (by first | exact .bl true | exact .bl false)
 | bl b =>
  cases ry'
  cases rx with
  | non=>cases rx';exact hU (x':=.non) (c:=true) I rfl (by cases b <;> rfl) (by cases b <;> rfl) (q ρ H _ (Le.refl _ _) rh (.bl true))
  | bl c=>cases rx';exact hU (x':=.bl c) (c:=!(c == b)) I rfl (by cases b <;> cases c <;> rfl) (by cases b <;> cases c <;> rfl) (q ρ H _ (Le.refl _ _) rh (.bl _))
  | int i=>obtain⟨t,rfl⟩:=rx';exact hU (x':=.int i) (c:=true) I ⟨_,rfl⟩ (by cases b <;> rfl) (by cases b <;> rfl) (q ρ H _ (Le.refl _ _) rh (.bl true))
  | str i=>obtain⟨t,rfl⟩:=rx';exact hU (x':=.str i) (c:=true) I ⟨_,rfl⟩ (by cases b <;> rfl) (by cases b <;> rfl) (q ρ H _ (Le.refl _ _) rh (.bl true))
  | tup s1 r1=>cases rx';exact hU (x':=.ref _) (c:=true) I rfl (by cases b <;> rfl) (by cases b <;> rfl) (q ρ H _ (Le.refl _ _) rh (.bl true))
  | _=>exact q.elim
 | _=>exact q.elim
noncomputable def aY(x y:PV)(h:MH):Out PV:=match y with
 | .int i=>(match x with
  | .loc n=>(match h[n]? with
   | some (.lst xs)=>(match atI xs i with
    | some v=>.ok v h
    | none=>.bad)
   | _=>.bad)
  | .tup xs=>(match atI xs i with
   | some v=>.ok v h
   | none=>.bad)
  | .frl xs=>(match atI xs i with
   | some v=>.ok v h
   | none=>.bad)
  | .str z=>(match atI z.cps.toList i with
   | some c=>if z.length<=sizeLine then .ok (.str ⟨#[c]⟩) h else .bad
   | none=>.bad)
  | _=>.bad)
 | _=>.bad
theorem j9{K:qaa}{ρ:List Addr}{H:Hp}{xs:List PV}{ys:List V}{i:Int}{v:PV}(r:RPs K ρ H xs ys)(e:atI xs i=some v):∃v',atI ys i=some v'/\RP K ρ H v v':=by
 unfold atI at e ⊢;rw[<-r.length]
 cases q:ixN xs.length i with
 | none=>rw[q] at e;cases e
 | some j =>
  rw[q] at e;exact r.get e
theorem me_ix{a b:Expr}{ma mb:Mx PV}{pos:Pos}(ha:ME X a ma)(hb:ME X b mb)(hs:kA b):ME X (.Subscript a b pos) (ai aY ma mb):=by
 refine PE.imp (pe_ix ix_seq ha hb hs) fun σ H Q q=>?_;obtain⟨ρ,σp,h,rs,rh,q⟩:=q;refine⟨ρ,σp,h,rs,rh,Ful.bind q fun ρ1 H1 x x' h1 _ l1 rh1 rx q1=>⟨ρ1,σp,h1,rs.le l1,rh1,Ful.bind q1 fun ρ2 H2 y y' h2 _ l2 rh2 ry q2=>?_⟩⟩;have rx2:=rx.le l2
 cases ry with
 | int i =>
  cases rx2 with
  | @loc n a e =>
   obtain⟨ob,eo,rob⟩:=rh2.obj e;dsimp only[aY] at q2;rw[eo] at q2
   cases ob with
   | dic kvs=>exact q2.elim
   | exc x=>exact q2.elim
   | lst xs =>
    obtain⟨ys,ey,rr⟩:=rob;dsimp only at q2
    cases ea:atI xs i with
    | none=>rw[ea] at q2;exact q2.elim
    | some v =>
     rw[ea] at q2;obtain⟨v',e',rv⟩:=j9 rr ea;exact .inl ⟨a,ys,i,v',rfl,rfl,SqL.of ey,e',q2 ρ2 H2 _ (Le.refl _ _) rh2 rv⟩
  | @tup xs a ys s1 rr =>
   dsimp only[aY] at q2
   cases ea:atI xs i with
   | none=>rw[ea] at q2;exact q2.elim
   | some v =>
    rw[ea] at q2;obtain⟨v',e',rv⟩:=j9 rr ea;exact .inr (.inl ⟨_,_,i,v',rfl,rfl,s1,e',q2 ρ2 H2 _ (Le.refl _ _) rh2 rv⟩)
  | @frl xs a ys s1 rr =>
   dsimp only[aY] at q2
   cases ea:atI xs i with
   | none=>rw[ea] at q2;exact q2.elim
   | some v =>
    rw[ea] at q2;obtain⟨v',e',rv⟩:=j9 rr ea;exact .inl ⟨_,_,i,v',rfl,rfl,s1.sq,e',q2 ρ2 H2 _ (Le.refl _ _) rh2 rv⟩
  | str z =>
   dsimp only[aY] at q2
   cases ea:atI z.cps.toList i with
   | none=>rw[ea] at q2;exact q2.elim
   | some c =>
    rw[ea] at q2;dsimp only at q2
    split at q2
    ·rename_i hz
     exact .inr (.inr ⟨z,i,c,rfl,rfl,hz,ea,q2 ρ2 H2 _ (Le.refl _ _) rh2 (.str _)⟩)
    ·exact q2.elim
  | _=>exact q2.elim
 | _=>exact q2.elim
def mCB(f:List PV->MH->Out PV)(m:Mx (List PV)):Mx PV:=fun σ h=>(m σ h).bind fun xs h1=>(f xs h1).ne
section
variable {x:Str} {id T:String} {e:Expr} {es:List Expr} {f:List PV→MH→Out PV} {m:Mx (List PV)} {p pos:Pos}
theorem tM_cb{σ:L2.St}{H:Hp}{Q:VK}(q:tM X (RV' X) (mCB f m) σ H Q):tCB (cJ X f) (tM X (RVs' X) m) σ H Q:=by
 obtain⟨ρ,σp,h,rs,rh,q⟩:=q;exact⟨ρ,σp,h,rs,rh,Ful.bind q fun ρ1 H1 x x' h1 _ l1 rh1 rx q1=>⟨ρ1,h1,x,rh1,rx,q1.zero⟩⟩
theorem uu(g:Good X N W G k)(j:Nat)(hj:G[j]?=some x)(hc:bY X (.builtin id) f)(hm:X.mg x=none)(hv:bootBuiltins x=some (.builtin id))(ha:MA X (e::es) m)
  (he:starEach (e::es) X.env=(false,eval e X.env)::starEach es X.env:=by rfl) (hpl:(backTo pos (starEach es X.env)).any (·.1)=false:=by rfl):ME X (.Call (.Name x p) (e::es) [] pos) (mCB f m) :=
 have d:=g.dbg x (qac _ (aw hj))
 PE.imp (eG hc (g.gl x (aw hj)) hm hv ha d.2.2 d.1 he hpl) fun _ _ _ q=>tM_cb q
theorem sI(g:Good X N W G k)(j:Nat)(hj:G[j]?=some x)(hc:bY X (.type T) f)(hm:X.mg x=none)(hv:bootBuiltins x=some (.type T))(ha:MA X (e::es) m)
  (he:starEach (e::es) X.env=(false,eval e X.env)::starEach es X.env:=by rfl) (hpl:(backTo pos (starEach es X.env)).any (·.1)=false:=by rfl):ME X (.Call (.Name x p) (e::es) [] pos) (mCB f m) :=
 have d:=g.dbg x (qac _ (aw hj))
 PE.imp (lc hc (g.gl x (aw hj)) hm hv ha d.2.2 d.1 he hpl) fun _ _ _ q=>tM_cb q
end
def fAbs(xs:List PV)(h:MH):Out PV:=match xs with
 | [.int i]=>.ok (.int (if i<0 then -i else i)) h
 | _=>.bad
def fMin(xs:List PV)(h:MH):Out PV:=match xs with
 | [.int i,.int j]=>.ok (.int (if j<i then j else i)) h
 | _=>.bad
def fMax(xs:List PV)(h:MH):Out PV:=match xs with
 | [.int i,.int j]=>.ok (.int (if j>i then j else i)) h
 | _=>.bad
def fInt(xs:List PV)(h:MH):Out PV:=match xs with
 | [.int i]=>.ok (.int i) h
 | [.bl b]=>.ok (.int (if b then 1 else 0)) h
 | _=>.bad
noncomputable def fLen(xs:List PV)(h:MH):Out PV:=match xs with
 | [.loc n]=>(match h[n]? with
  | some (.lst ys)=>.ok (.int ys.length) h
  | _=>.bad)
 | [.tup ys]=>.ok (.int ys.length) h
 | [.frl ys]=>.ok (.int ys.length) h
 | [.str z]=>if z.length<=sizeLine then .ok (.int z.length) h else .bad
 | _=>.bad
theorem sh:bY X (.builtin "abs") fAbs:=by
 intro BN s σ H xs us Q I r ⟨ρ,h,ps,rh,rp,q⟩
 cases rp with
 | nil=>exact q.elim
 | cons r1 t1 =>
  cases t1 with
  | cons _ _=>cases r1 <;> exact q.elim
  | nil =>
   cases r1 with
   | int i=>exact um BN s σ H _ us Q I r ⟨i,rfl,q ρ H _ (Le.refl _ _) rh (.int _)⟩
   | _=>exact q.elim
theorem lW{f:List PV->MH->Out PV}{F:Int->Int->Int}{r:List V->Hp->VK->Prop}{V0:Value}(hf:∀i j h,f [.int i,.int j] h=.ok (.int (F i j)) h)(hb:∀xs h,(∀i j,xs≠[.int i,.int j])->f xs h=.bad)
  (hc:bK X V0 (fun xs H Q=>∃i j,xs=[.int i,.int j]/\Q (.int (F i j)) H)):bY X V0 f:=by
 intro BN s σ H xs us Q I r ⟨ρ,h,ps,rh,rp,q⟩;by_cases z:∃i j,ps=[.int i,.int j]
 ·obtain⟨i,j,rfl⟩:=z
  cases rp with
  | cons r1 t1=>cases t1 with
   | cons r2 t2 =>
    cases t2;cases r1;cases r2;rw[hf] at q;exact hc BN s σ H _ us Q I r ⟨i,j,rfl,q ρ H _ (Le.refl _ _) rh (.int _)⟩
 ·rw[hb ps h fun i j e=>z ⟨i,j,e⟩] at q;exact q.elim
theorem mE(g:Good X N W G k):bY X (.builtin "min") fMin:=lW (r:=fun _ _ _=>True) (F:=fun i j=>if j<i then j else i) (fun _ _ _=>rfl) (fun xs h z=>by unfold fMin;split <;> first | rfl | exact absurd rfl (z _ _)) (rN g.calm)
theorem cj_max(g:Good X N W G k):bY X (.builtin "max") fMax:=lW (r:=fun _ _ _=>True) (F:=fun i j=>if j>i then j else i) (fun _ _ _=>rfl) (fun xs h z=>by unfold fMax;split <;> first | rfl | exact absurd rfl (z _ _)) (rB g.calm)
theorem cj_int:bY X (.type "int") fInt:=by
 intro BN s σ H xs us Q I r ⟨ρ,h,ps,rh,rp,q⟩
 cases rp with
 | nil=>exact q.elim
 | cons r1 t1 =>
  cases t1 with
  | cons _ _=>cases r1 <;> exact q.elim
  | nil =>
   cases r1 with
   | int i=>exact k7 BN s σ H _ us Q I r (.inl ⟨i,rfl,q ρ H _ (Le.refl _ _) rh (.int _)⟩)
   | bl b=>exact k7 BN s σ H _ us Q I r (.inr ⟨b,rfl,q ρ H _ (Le.refl _ _) rh (.int _)⟩)
   | _=>exact q.elim
theorem cD:bY X (.builtin "len") fLen:=by
 intro BN s σ H xs us Q I r ⟨ρ,h,ps,rh,rp,q⟩
 cases rp with
 | nil=>exact q.elim
 | cons r1 t1 =>
  cases t1 with
  | cons _ _=>cases r1 <;> exact q.elim
  | nil =>
   cases r1 with
   | @loc n a e =>
    obtain⟨ob,eo,rob⟩:=rh.obj e;dsimp only[fLen] at q;rw[eo] at q
    cases ob with
    | dic kvs=>exact q.elim
    | exc x=>exact q.elim
    | lst xs =>
     obtain⟨ys,ey,rr⟩:=rob;exact gk BN s σ H _ us Q I r ⟨_,_,rfl,.inl ⟨ys,SqL.of ey,rfl⟩,by rw[<-rr.length];exact q ρ H _ (Le.refl _ _) rh (.int _)⟩
   | tup s1 rr=>exact gk BN s σ H _ us Q I r ⟨_,_,rfl,.inr ⟨_,s1,rfl⟩,by rw[<-rr.length];exact q ρ H _ (Le.refl _ _) rh (.int _)⟩
   | frl s1 rr=>exact gk BN s σ H _ us Q I r ⟨_,_,rfl,.inl ⟨_,s1.sq,rfl⟩,by rw[<-rr.length];exact q ρ H _ (Le.refl _ _) rh (.int _)⟩
   | str z =>
    dsimp only[fLen] at q
    split at q
    ·rename_i hz
     exact gk BN s σ H _ us Q I r ⟨_,_,rfl,⟨hz,rfl⟩,q ρ H _ (Le.refl _ _) rh (.int _)⟩
    ·exact q.elim
   | _=>exact q.elim
end
section
variable {X:Cx} {N W G:List Str} {k:Nat}
def tyP(h:MH):PV->Option String
 | .non=>some "NoneType"
 | .bl _=>some "bool"
 | .int _=>some "int"
 | .str _=>some "str"
 | .tup _=>some "tuple"
 | .frl _=>some "list"
 | .loc n=>match h[n]? with
  | some (.lst _)=>some "list"
  | some (.dic _)=>some "dict"
  | _=>none
def cz(t:String)(T:String):Bool:=t == T || (t == "bool" && T == "int")
def gh(Ts:List String)(x:PV)(h:MH):Out PV:=match tyP h x with
 | some t=>.ok (.bl (Ts.any (cz t))) h
 | none=>.bad
def okT(T:String):Prop:=∀K:qaa,∀t∈["NoneType","bool","int","str","tuple","list","dict"],PySem.W.kitOne K (.type t) (.type T)=some (cz t T)
theorem nz(h1:∀K,PySem.W.kitOne K (.type "NoneType") (.type T)=some (cz "NoneType" T))(h2:∀K,PySem.W.kitOne K (.type "bool") (.type T)=some (cz "bool" T))(h3:∀K,PySem.W.kitOne K (.type "int") (.type T)=some (cz "int" T))
  (h4:∀K,PySem.W.kitOne K (.type "str") (.type T)=some (cz "str" T)) (h5:∀K,PySem.W.kitOne K (.type "tuple") (.type T)=some (cz "tuple" T)) (h6:∀K,PySem.W.kitOne K (.type "list") (.type T)=some (cz "list" T))
  (h7:∀K,PySem.W.kitOne K (.type "dict") (.type T)=some (cz "dict" T)):okT T:=by
 intro K t ht;simp only[qan,qbi,or_false] at ht;rcases ht with rfl|rfl|rfl|rfl|rfl|rfl|rfl
 ·exact h1 K
 ·exact h2 K
 ·exact h3 K
 ·exact h4 K
 ·exact h5 K
 ·exact h6 K
 ·exact h7 K
theorem okT_int:okT "int":=nz (fun _=>rfl) (fun _=>rfl) (fun _=>rfl) (fun _=>rfl) (fun _=>rfl) (fun _=>rfl) (fun _=>rfl)
theorem lZ:okT "bool":=nz (fun _=>rfl) (fun _=>rfl) (fun _=>rfl) (fun _=>rfl) (fun _=>rfl) (fun _=>rfl) (fun _=>rfl)
theorem tX:okT "list":=nz (fun _=>rfl) (fun _=>rfl) (fun _=>rfl) (fun _=>rfl) (fun _=>rfl) (fun _=>rfl) (fun _=>rfl)
theorem ko{BN:List (Addr × Obj)}{σ:L2.St}{H:Hp}{s:Shared}{ρ:List Addr}{h:MH}{x:PV}{x':V}{u:Value}{t:String}(I:Inv X BN σ H s)(rh:RH X.K X.mg ρ H h)(rx:RP X.K ρ H x x')(ru:aK x' u)(e:tyP h x=some t) :
  t∈["NoneType","bool","int","str","tuple","list","dict"]/\u≠.builtin "__main__.__loader__#opaque"/\∃Hq,PySem.W.KitX X.K u (.type t) Hq/\Hq s.heap:=by
 cases rx with
 | non=>cases e;cases ru;exact⟨by simp,(fun z=>nomatch z),_,PySem.W.kitx_none,trivial⟩
 | bl b=>cases e;cases ru;exact⟨by simp,(fun z=>nomatch z),_,PySem.W.kitx_bool,trivial⟩
 | int i=>cases e;obtain⟨t,rfl⟩:=ru;exact⟨by simp,(fun z=>nomatch z),_,PySem.W.kitx_int,trivial⟩
 | str i=>cases e;obtain⟨t,rfl⟩:=ru;exact⟨by simp,(fun z=>nomatch z),_,PySem.W.kitx_str,trivial⟩
 | tup s1 r1 =>
  cases e;cases ru;obtain⟨its,rv,⟨o,e1,e2,_⟩,_⟩:=I.tuple s1;exact⟨by simp,(fun z=>nomatch z),_,PySem.W.kitx_tuple,⟨o,e1,e2⟩⟩
 | frl s1 r1 =>
  cases e;cases ru;obtain⟨its,rv,⟨o,m,e1,e2,_,e3⟩,_⟩:=I.list s1.sq;exact⟨by simp,(fun z=>nomatch z),_,PySem.W.kitx_list,⟨o,e1,e2⟩⟩
 | @loc n a en =>
  obtain⟨ob,eo,rob⟩:=rh.obj en;dsimp only[tyP] at e;rw[eo] at e;cases ru
  cases ob with
  | lst xs =>
   cases e;obtain⟨ys,ey,_⟩:=rob;obtain⟨its,rv,⟨o,m,e1,e2,_,e3⟩,_⟩:=I.list (SqL.of (K:=X.K) ey);exact⟨by simp,(fun z=>nomatch z),_,PySem.W.kitx_list,⟨o,e1,e2⟩⟩
  | dic kvs =>
   cases e;obtain⟨_,ey⟩:=rob;obtain⟨_,_,vs,_,p⟩:=(show ObjOk X.prog X.w H s.heap a (.dK []) from I.hok a _ ey);obtain⟨o,es,ep,h1,h2,_⟩:=p;exact⟨by simp,(fun z=>nomatch z),_,PySem.W.kitx_dict,⟨o,h1,h2.1⟩⟩
  | exc x=>cases e
theorem jG(g:Good X N W G k){a:Expr}{m:Mx PV}{T:String}{c:Str}{i j:Nat}{p q pos:Pos}(hi:G[i]?=some "isinstance")(hm:X.mg "isinstance"=none)(hj:G[j]?=some c)(hc:X.mg c=none)(hv:bootBuiltins c=some (.type T))(hT:okT T)(ha:ME X a m)
  (he:starEach [a,.Name c q] X.env=(false,eval a X.env)::starEach [.Name c q] X.env:=by rfl) (he2:starEach [.Name c q] X.env=[(false,eval (.Name c q) X.env)]:=by rfl) (hpl:(backTo pos (starEach [.Name c q] X.env)).any (·.1)=false:=by rfl) :
  ME X (.Call (.Name "isinstance" p) [a,.Name c q] [] pos) (mUn (gh [T]) m):=by
 have d1:=g.dbg _ (qac _ (aw hi));have d:=g.dbg c (qac _ (aw hj));have hcall:bK X (.builtin "isinstance") (fun xs H Q=>∃x',xs=[x',.ty T]/\uJ X (gh [T]) x' H Q):=by
  intro BN s σ H xs us Q I r ⟨x',e,ρ,h,x,rh,rx,q⟩;subst e
  cases r with
  | cons r1 t1=>cases t1 with
   | cons r2 t2 =>
    cases t2;obtain rfl:=(show _=Value.type T from r2);unfold gh at q
    cases et:tyP h x with
    | none=>rw[et] at q;exact q.elim
    | some t =>
     rw[et] at q;obtain⟨ht,hne,Hq,Z,hz⟩:=ko I rh rx r1 et
     exact PySem.W.kia_one Z I.kIn hz (hT X.K t ht) hne fun tk=>⟨.bl _,H,I.tok _,rfl,by
      have q':=q ρ H _ (Le.refl _ _) rh (.bl _)
      simpa using q'⟩
 refine PE.imp (eG hcall (g.gl _ (aw hi)) hm PyProof.Rows.Boot.«isinstance» (bU ha (bU (pP (v:=.ty T) (u:=.type T) (g.gl c (aw hj)) hc hv rfl d.2.2 d.1) eE he2) he) d1.2.2 d1.1 he hpl) fun σ H Q ⟨ρ,σp,h,rs,rh,q⟩=>?_;exact⟨ρ,σp,h,rs,rh,Ful.bind q fun ρ1 H1 x x' h1 _ l1 rh1 rx q1=>⟨x',rfl,ρ1,h1,x,rh1,rx,q1.zero⟩⟩
def spM(K:qaa)(mg:MGl)(F:List PV->MH->Out PV):Sp:=fun vs H Q E=>∃ρ ps h,RPs K ρ H ps vs/\RH K mg ρ H h/\match F ps h with
 | .ok v h'=>∀ρ' H' v',Le ρ H ρ' H'->RH K mg ρ' H' h'->RP K ρ' H' v v'->Q v' H'
 | .exc x h'=>∀C ρ' H',x.fs=[]->mg x.cls=some (.ref C)->Le ρ H ρ' H'->RH K mg ρ' H' h'->E (.ref C) none H'
 | .bad=>False
def CXm(P:Program)(w:World):CXT:=fun outer H s E e s'=>∃ea C H',e=.ref ea/\s'.os=s.os/\AllBare s'.gens/\Un (frs outer) [] H H' s.heap s'.heap/\HOk P w H' s'.heap/\Fly outer H' s.heap C ea s'.heap/\E (.ref C) none H'
structure Cal (X:Cx) (x:Str) (ps:List Str) (F:List PV->MH->Out PV) (k:Nat):Prop where
 ex:∃f fd,X.mg x=some (.ref f)/\PySem.W.keepIn X.K (.ref f)=true/\jl X.K fd ps []/\FnOk X.prog X.w X.K X.mg X.base (CXm X.prog X.w) k f fd ps (spM X.K X.mg F)
theorem Cal.to(c:Cal X x ps F i)(e1:Y.prog=X.prog)(e2:Y.w=X.w)(e3:Y.K=X.K)(e4:Y.mg=X.mg)(e5:Y.base=X.base):Cal Y x ps F i:=by
 obtain⟨f,fd,a,b,d,e⟩:=c.ex;refine⟨f,fd,by rw[e4];exact a,by rw[e3];exact b,by rw[e3];exact d,?_⟩;rw[e1,e2,e3,e4,e5];exact e
def aR(F:List PV->MH->Out PV)(m:Mx (List PV)):Mx PV:=fun σ h=>(m σ h).bind F
theorem me_call(g:Good X N W G k){x:Str}{j:Nat}(hj:G[j]?=some x){ps:List Str}{F:List PV->MH->Out PV}(C:Cal X x ps F k){e:Expr}{es:List Expr}{m:Mx (List PV)}{p pos:Pos}(ha:MA X (e::es) m)
  (he:starEach (e::es) X.env=(false,eval e X.env)::starEach es X.env:=by rfl) (hpl:(backTo pos (starEach es X.env)).any (·.1)=false:=by rfl):ME X (.Call (.Name x p) (e::es) [] pos) (aR F m):=by
 obtain⟨f,fd,hm,hk,hb,F'⟩:=C.ex;have d:=g.dbg x (qac _ (aw hj));intro BN s σ H Q I ⟨ρ,σp,h,rs,rh,q⟩;refine wpAny_Call_Name_kw (kN I (g.gl x (aw hj)) hm ?_ d.1)
 refine PySem.W.callWith_K (h₀:=X.base) I.ok.mod.kin hk (thn (ha pos BN s σ H (fun vs H1=>∃ρ1 xs h1,Le ρ H ρ1 H1/\RH X.K X.mg ρ1 H1 h1/\RPs X.K ρ1 H1 xs vs/\Ful X (RV' X) σp ρ1 H1 (F xs h1) Q) I
  ⟨ρ,σp,h,rs,rh,Ful.bind q fun ρ1 H1 xs vs h1 _ l1 rh1 rx q1=>⟨ρ1,xs,h1,l1,rh1,rx,q1⟩⟩) fun us s1 ⟨vs,H1,I1,r,ρ1,xs,h1,l1,rh1,rx,q1⟩=>⟨I1.kIn,?_⟩) he hpl
 have run:∀E:XK,spM X.K X.mg F vs H1 Q E->(∀ea C H' s',s'.os=s1.os->AllBare s'.gens->Un (frs X.stack) [] H1 H' s1.heap s'.heap->HOk X.prog X.w H' s'.heap->Fly X.stack H' s1.heap C ea s'.heap->E (.ref C) none H'->X.xe (.ref ea) s') ->
   wpAny (model X.prog X.w) X.A (call (.ref f) us) (EP X BN σ Q) X.xe s1:=fun E hsp hE=>by
  have hl:(us++[]).length=ps.length:=by rw[qbJ,<-r.length];exact F'.len _ _ _ _ hsp
  have hb1:=hb s1 us I1.kIn hl;rw[qbJ] at hb1;refine wpAny_call (codeAny_mono (F'.run X.A X.stack s1 H1 ⟨us,[]⟩ us vs Q E g.room I1.env0 hb1 r hsp) fun r s' hq=>?_)
  cases r with
  | error e =>
   obtain⟨ea,C,H',rfl,a1,a2,a3,a4,a5,a6⟩:=hq;exact hE ea C H' s' a1 a2 a3 a4 a5 a6
  | ok fl =>
   cases fl with
   | ret u=>exact I1.after hq
   | next=>exact False.elim hq
   | brk=>exact False.elim hq
   | cont=>exact False.elim hq
 cases eF:F xs h1 with
 | bad=>rw[eF] at q1;exact q1.elim
 | ok v h' =>
  rw[eF] at q1;exact run (fun _ _ _=>False) ⟨ρ1,xs,h1,rx,rh1,by rw[eF];exact q1⟩ fun _ _ _ _ _ _ _ _ _ z=>z.elim
 | exc x' h' =>
  rw[eF] at q1;refine run (fun c _ H'=>∃C ρ',c=.ref C/\x'.fs=[]/\X.mg x'.cls=some (.ref C)/\Le ρ1 H1 ρ' H'/\RH X.K X.mg ρ' H' h') ⟨ρ1,xs,h1,rx,rh1,by rw[eF];exact fun C ρ' H' a b c d=>⟨C,ρ',rfl,a,b,c,d⟩⟩ fun ea C H' s' a1 a2 a3 a4 a5 a6=>?_;obtain⟨C',ρ',eC,b1,b2,b3,b4⟩:=a6;cases eC;have IX:=I1.call' (s':=s') (ch:=[]) a1 a3 a4 a2 (fun b z=>absurd z (by simp));have IX0:Inv X [] σ H' s':=Inv.unpinned (BN:=[]) (pl:=BN) IX;exact q1 ea C ρ' H' σ s' s1.heap b1 b2 b3 b4 (rs.le (l1.trans b3)) IX0 (Inv.bears I1) a5
def bv(n:Nat)(ps:List PV):PSt:=ps.map some++List.replicate (n - ps.length) none
noncomputable def bp(n np:Nat)(m:Mst):List PV->MH->Out PV:=fun ps h=>if ps.length=np then (match m (bv n ps) h with
 | .nx _ h'=>.ok .non h'
 | .rt v h'=>.ok v h'
 | .exc x _ h'=>.exc x h'
 | .rse x _ h'=>.exc x h'
 | _=>.bad) else .bad
theorem uq{K:qaa}{ρ:List Addr}{H:Hp}{N:List Str}{ps:List PV}{vs:List V}(r:RPs K ρ H ps vs):RS K ρ H (bv N.length ps) (L2.start N vs):=by
 have hl:=r.length;refine⟨by simp[bv,L2.start,hl],fun i v e=>?_⟩;unfold bv at e;by_cases hi:i<ps.length
 ·rw[qaj (by simpa using hi),qax] at e
  cases q:ps[i]? with
  | none=>rw[q] at e;cases e
  | some x =>
   rw[q] at e;cases e;obtain⟨v',e',rv⟩:=r.get q;refine⟨v',?_,rv⟩;unfold L2.start;rw[qaj (by simp;omega),qax,e'];rfl
 ·rw[qau (by simpa using hi),qbc] at e
  split at e <;> cases e
theorem nZ{B h:Heap}(k:B.StaysIn h){b:Addr}{o ob:Obj}(e1:B.get? b=some ob)(e2:h.get? b=some o):ob=o:=by
 have:=k b ob e1
 rw[e2] at this;exact (Option.some.inj this).symm
theorem pG{X:Cx}{σ':L2.St}{H':Hp}{s':Shared}{h' B:Heap}(I:Inv X [] σ' H' s')(hex:X.ex=[])(hB:B.StaysIn s'.heap)(hB':B.StaysIn h')(sm:s'.heap.UpToSlots h')
  (cov:∀b o,X.s₀.heap.get? b=some o->b∉X.fs->∃ob,B.get? b=some ob) (cvH:∀b o,H' b=some o->∃ob,B.get? b=some ob):Un X.fs [] X.H₀ H' X.s₀.heap h'/\HOk X.prog X.w H' h':=by
 have nex:∀b:Addr,b∉X.ex:=fun b=>by rw[hex];simp
 have kp:∀b o ob,B.get? b=some ob->s'.heap.get? b=some o->h'.get? b=some o:=fun b o ob e1 e2=>by
  have:=nZ hB e1 e2
  subst this;exact hB' b ob e1
 refine⟨⟨fun b o e n hf _=>?_,fun b o e n hf _=>?_,fun b o e n _=>I.base.free b o e n (nex b),fun b o e _=>?_,I.base.tups,I.base.frzs,I.base.tbls⟩,fun a o e=>?_⟩
 ·obtain⟨ob,eb⟩:=cov b o e hf;exact kp b o ob eb (I.base.keep b o e n hf (nex b))
 ·obtain⟨sl,e1⟩:=I.base.slot b o e n hf (nex b);obtain⟨_,oF,eF,dF⟩:=I.ok.funs.mem hf;rw[e] at eF;cases eF;obtain⟨sl',e2⟩:=sm b _ e1 (fun vs z=>dF vs z);exact⟨sl',e2⟩
 ·by_cases hf:b∈X.fs
  ·obtain⟨_,oF,eF,dF⟩:=I.ok.funs.mem hf;rw[e] at eF;cases eF;obtain⟨sl,e1⟩:=I.base.slot b o e (I.ok.frf b hf) hf (nex b);obtain⟨sl',e2⟩:=sm b _ e1 (fun vs z=>dF vs z);exact⟨_,e2⟩
  ·obtain⟨ob,eb⟩:=cov b o e hf;exact⟨ob,hB' b ob eb⟩
 ·refine (I.hok a o e).stay (fun b u hb z=>?_) (fun _ z=>z) fun _ _ z=>z;rcases hb with rfl|hb
  ·obtain⟨ob,eb⟩:=cvH _ _ e;exact kp _ u ob eb z
  ·obtain⟨ob,eb⟩:=cvH _ _ hb;exact kp _ u ob eb z
theorem _root_.L2.ObjOk.has(x:ObjOk P w H h a o):∃u,h.get? a=some u:=by
 cases o with
 | lst xs=>obtain⟨_,_,_,_,e⟩:=x;exact⟨_,e⟩
 | tup xs=>obtain⟨_,_,_,o,e,_⟩:=x;exact⟨o,e⟩
 | dK kvs=>obtain⟨_,_,_,_,o,_,_,e,_⟩:=x;exact⟨o,e⟩
 | dT kvs=>obtain⟨_,_,_,_,o,_,_,e,_⟩:=x;exact⟨o,e⟩
 | set S n=>obtain⟨o,_,_,_,e,_⟩:=x;exact⟨o,e⟩
 | ins C dx fs=>obtain⟨_,_,_,e,_⟩:=x;exact⟨_,e⟩
 | own y=>obtain⟨o,e⟩:=x;exact⟨o,e⟩
 | xd fs=>obtain⟨_,⟨o,_,_,e,_⟩,_⟩:=x;exact⟨o,e⟩
 | rng lo hi=>obtain⟨_,_,_,e⟩:=x;exact⟨_,e⟩
 | frz ob u=>obtain⟨e,_⟩:=x;exact⟨_,e⟩
 | tbl ps=>exact⟨_,(show h.get? a=some _ from x)⟩
 | met f y=>exact⟨_,(show h.get? a=some _ from x)⟩
 | ext φ=>obtain⟨_,⟨o,e⟩,_⟩:=x;exact⟨o,e⟩
structure DefCx (X:Cx):Prop where
 stk:X.stack=X.env::X.outer
 fr:X.env.frame=some X.env.locals
 ex:X.ex=[]
theorem fn_M{P:Program}{w:World}{K:qaa}{mg:Str->Option Value}{base:Heap}{x qual:Str}{st:Stmt}{f:Addr}{fd:FuncData}{ps:List Str}{m:Mst}(Fu:Fun K x qual st f fd)(S:FnScope N ps (aD st))
  (hl:∀y∈N,Loc (aD st) y) (hgl:∀y∈G,(aD st).names.lookup y=some .globalImplicit)
  (dbg:∀x∈N++G,(x == ("__debug__":Str))=false/\(x == ("__classdict__":Str))=false/\x≠"__name__")
  (hb:∀X:Cx,X.prog=P->X.w=w->X.K=K->X.mg=mg->X.base=base->X.env.scope=aD st->Good X N N G k->DefCx X->MSs X (aN st) m) :
  FnOk P w K mg base (CXm P w) (k+1) f fd ps (spM K mg (bp N.length ps.length m)):=by
 have len:∀vs H Q E,spM K mg (bp N.length ps.length m) vs H Q E->vs.length=ps.length:=by
  rintro vs H Q E ⟨ρ,zs,h,r,rh,q⟩;rw[<-r.length];unfold bp at q;by_cases hp:zs.length=ps.length
  ·exact hp
  ·rw[qai hp] at q;exact q.elim
 obtain⟨oc,od,kV,doc,pm,an,cdv,ct,osl,rfl,lk,hcd⟩:=Fu.ex;refine fn_of lk hcd S len fun A outer s H vs Q E hr hsp=>?_;obtain⟨ρ,zs,h,r,rh,q⟩:=hsp;refine⟨_,hb _ rfl rfl rfl rfl rfl rfl ⟨rfl,S.nd,hl,fun _ _=>.inl rfl,hgl,dbg,rfl,hr,PassesOwn.leaving⟩ ⟨rfl,rfl,rfl⟩,ρ,bv N.length zs,h,uq r,rh,?_⟩;unfold bp at q;by_cases hp:zs.length=ps.length
 ·rw[qaf hp] at q
  cases e:m (bv N.length zs) h with
  | nx σ' h'=>rw[e] at q;exact fun ρ' H' σ' l r' s'=>q ρ' H' .non l r' .non
  | rt v h'=>rw[e] at q;exact q
  | bk σ h'=>rw[e] at q;exact q.elim
  | ct σ h'=>rw[e] at q;exact q.elim
  | bad=>rw[e] at q;exact q.elim
  | exc x σ h' =>
   rw[e] at q;intro ea C ρ' H' σ' s' lim hfs hmg l rh' rs' I' brs fly;obtain⟨B,t,hfl,hBH,hcov,hea⟩:=fly;refine wpAny_leaves_onW (base:=B) (env:=envOfC qual (aD st) s.heap.objs.size f cdv) (outer:=outer) I'.ok.frames rfl hfl fun h'' hfl' sm=>?_;have hb1:∀b o,s.heap.get? b=some o->b∉frs outer->∃ob,B.get? b=some ob:=fun b o eb hf=>by
    obtain⟨o',e'⟩:=brs.old b o eb (by show b∉([]:List Addr);simp);refine hcov b o' e' fun hm=>?_;rcases qan.mp (I'.stkSub b hm) with z|z
    ·exact absurd (qao eb) (by rw[z];exact qaO _)
    ·exact hf z
   obtain⟨un,hk'⟩:=pG (B:=B) I' rfl hfl.1 hfl'.1 sm hb1 hBH;exact⟨ea,C,H',rfl,I'.os,I'.bare,un,hk',⟨B,t,hfl',hBH,hb1,hea⟩,q C ρ' H' hfs hmg l rh'⟩
  | rse x σ h' =>
   rw[e] at q;intro ea C ρ' H' σ' s' h0 args hfs hmg l rh' rs' I' made;have hst:=I'.stack;have hin:∀env∈(envOfC qual (aD st) s.heap.objs.size f cdv::outer),∀b,env.frame=some b->b∈frs (envOfC qual (aD st) s.heap.objs.size f cdv::outer):=fun env he b hb=>qbI.mpr ⟨env,he,hb⟩;refine wpAny_leaves_madeW (base:=PySem.W.hideAll h0 (frs (envOfC qual (aD st) s.heap.objs.size f cdv::outer))) (h:=h0) (env:=envOfC qual (aD st) s.heap.objs.size f cdv) (outer:=outer) I'.ok.frames rfl (fun b o z=>PySem.W.of_hideAll _ z)
    (PySem.W.funFrames_hide (base:=base) hst hin) made fun h'' t hfl' _ _ sm=>?_
   have sub:∀b,b∈frs (envOfC qual (aD st) s.heap.objs.size f cdv::outer)->b=s.heap.objs.size\/b∈frs outer:=fun b hm=>qan.mp (I'.stkSub b hm);have hb1:∀b o,s.heap.get? b=some o->b∉frs outer->∃ob,(PySem.W.hideAll h0 (frs (envOfC qual (aD st) s.heap.objs.size f cdv::outer))).get? b=some ob:=fun b o eb hf=>by
    obtain⟨o',e'⟩:=I'.base.there b o eb (by show b∉([]:List Addr);simp);refine⟨o',PySem.W.hideAll_get _ e' fun hm=>?_⟩;rcases sub b hm with z|z
    ·exact absurd (qao eb) (by rw[z];exact qaO _)
    ·exact hf z
   have hBH:∀b o,H' b=some o->∃ob,(PySem.W.hideAll h0 (frs (envOfC qual (aD st) s.heap.objs.size f cdv::outer))).get? b=some ob:=fun b o eb=>by
    have hlt:=I'.hok.lt eb;obtain⟨u,eu⟩:∃u,h0.get? b=some u:=(I'.hok b o eb).has;refine⟨u,PySem.W.hideAll_get _ eu fun hm=>?_⟩
    have:=I'.stkFree b hm
    rw[eb] at this;cases this
   have sm0:h0.UpToSlots h'':=(Heap.UpToSlots.of_keeps made.keeps).trans sm;obtain⟨un,hk'⟩:=pG (B:=PySem.W.hideAll h0 (frs (envOfC qual (aD st) s.heap.objs.size f cdv::outer))) I' rfl (fun b o z=>PySem.W.of_hideAll _ z) hfl'.1 sm0 hb1 hBH;have hea:H' ea=none:=by
    cases z:H' ea with
    | none=>rfl
    | some o =>
     obtain⟨u,eu⟩:=(I'.hok ea o z).has;rw[made.new] at eu;cases eu
   exact⟨ea,C,H',rfl,I'.os,I'.bare,un,hk',⟨_,t,hfl',hBH,hb1,hea⟩,q C ρ' H' hfs hmg l rh'⟩
 ·rw[qai hp] at q;exact q.elim
noncomputable def itAny(v:PV)(h:MH):Out MIt:=match v with
 | .loc n=>(match h[n]? with
  | some (.lst xs)=>.ok ⟨xs,[(n,xs)]⟩ h
  | _=>.bad)
 | .frl xs=>.ok ⟨xs,[]⟩ h
 | .tup xs=>.ok ⟨xs,[]⟩ h
 | _=>.bad
noncomputable def db(m:Mx PV):Mx MIt:=fun σ h=>(m σ h).bind itAny
theorem dw(hl:ME X l m):MI X tg l (db m):=by
 intro BN s σ H R I ⟨ρ,σp,h,rs,rh,q⟩;by_cases z:∃xs h1,m σp h=.ok (.tup xs) h1
 ·obtain⟨xs,h1,e⟩:=z;refine mi_tup (tg:=tg) hl BN s σ H R I ⟨ρ,σp,h,rs,rh,?_⟩;unfold db at q;unfold mItT;rw[e] at q ⊢;exact q
 ·refine mi_list (tg:=tg) hl BN s σ H R I ⟨ρ,σp,h,rs,rh,?_⟩;unfold db at q;unfold mItL
  cases e:m σp h with
  | ok v h1 =>
   rw[e] at q
   cases v with
   | tup xs=>exact absurd ⟨xs,h1,e⟩ z
   | _=>exact q
  | exc x h1=>rw[e] at q;exact q
  | bad=>rw[e] at q;exact q
theorem Inv.bigM{BN:List (Addr × Obj)}{σ:L2.St}{H:Hp}{s:Shared}(I:Inv X BN σ H s):sysModules<s.heap.objs.size:=by
 have h:mainGlobals<s.heap.objs.size:=(I.mod.glob.keeps I.bk).lt;exact qcr (by decide) h
def mDic:Mx PV:=fun _ h=>.ok (.loc h.length) (h++[.dic []])
theorem me_dic0:ME X (.Dict [] [] pos) mDic:=fun BN s σ H Q I ⟨ρ,σp,h,rs,rh,q⟩=>by
 have hf:H s.heap.objs.size=none:=I.hok.fresh (qag _);obtain⟨r1,l1⟩:=rh.new hf (o:=.dic []) (ho:=.dK []) ⟨rfl,rfl⟩;refine wpAny_Dict_empty ⟨.ref s.heap.objs.size,_,I.laid (a:=s.heap.objs.size) (o:=.dK []) (t':=s.toks) (fun _ _ q=>qae _ q) (qag _) ?_,rfl,q _ _ _ l1 r1 (.loc (by rw[<-rh.len];simp))⟩;exact⟨qaG _,beq_eq_false_iff_ne.mpr (Ne.symm (qaJ (Inv.bigM I))),[],.nil,Heap.DictOf.new s.heap⟩
structure FnAt (P:Program) (w:World) (K:qaa) (mg:Str->Option Value) (base:Heap) (x:Str) (ps:List Str) (F:List PV->MH->Out PV) (k:Nat):Prop where
 ex:∃f fd,mg x=some (.ref f)/\PySem.W.keepIn K (.ref f)=true/\jl K fd ps []/\FnOk P w K mg base (CXm P w) k f fd ps (spM K mg F)/\∃oc od osl,K.lookup f=some ⟨oc,od,.func fd,osl⟩
theorem FnAt.mono{P:Program}{w:World}{K:qaa}{mg:Str->Option Value}{base:Heap}{x:Str}{ps:List Str}{F:List PV->MH->Out PV}{i j:Nat}(c:FnAt P w K mg base x ps F i)(h:i<=j):FnAt P w K mg base x ps F j :=
 let ⟨f,fd,a,b,d,e,z⟩:=c.ex;⟨f,fd,a,b,d,e.mono h,z⟩
theorem FnAt.cal{P:Program}{w:World}{K:qaa}{mg:Str->Option Value}{base:Heap}{x:Str}{ps:List Str}{F:List PV->MH->Out PV}{i:Nat}(c:FnAt P w K mg base x ps F i){X:Cx}(e1:X.prog=P)(e2:X.w=w)(e3:X.K=K)(e4:X.mg=mg)(e5:X.base=base):Cal X x ps F i:=by
 subst e1;subst e2;subst e3;subst e4;subst e5;obtain⟨f,fd,a,b,d,e,_⟩:=c.ex;exact⟨f,fd,a,b,d,e⟩
structure DefAt (K:qaa) (x:Str) (st:Stmt):Prop where
 ex:∃f fd,PySem.W.nsIn K mainGlobals x=some (some (.ref f))/\Fun K x x st f fd
theorem defAt_mk{K:qaa}{x:Str}{st:Stmt}{f:Addr}{oc:Value}{od an:Option Addr}{sl:Array (Option Value)}{kV dc pm cd ct:Value}
  (a:PySem.W.nsIn K mainGlobals x=some (some (.ref f))) (l:K.lookup f=some ⟨oc,od,.func (PySem.W.fnOf x x (dX st) (aN st) (aD st) .none kV dc pm an cd ct),sl⟩) (c:PySem.W.codeIn K cd x=true) (kp:PySem.W.keepIn K (.ref f)=true):DefAt K x st :=
 ⟨f,_,a,fun_mk l c kp⟩
def ie(x:Str)(st:Stmt)(ps:List Str):Prop:=∀(kV doc pm:Value) (an:Option Addr) (cdv ct:Value) (us:List Value),us.length=ps.length->bindArgs (PySem.W.fnOf x x (dX st) (aN st) (aD st) .none kV doc pm an cdv ct) ⟨us,[]⟩=pure (ps.zip us)
theorem fnAt_M{P:Program}{w:World}{K:qaa}{mg:Str->Option Value}{base:Heap}{x:Str}{st:Stmt}{ps:List Str}{m:Mst}(kin:K.In base)(ns:base.Ns mainGlobals mg)(D:DefAt K x st)(S:FnScope N ps (aD st))(B:ie x st ps)
  (hl:∀y∈N,(aD st).names.lookup y=some .local\/(aD st).names.lookup y=some .cell) (hgl:∀y∈G,(aD st).names.lookup y=some .globalImplicit)
  (dbg:∀x∈N++G,(x == ("__debug__":Str))=false/\(x == ("__classdict__":Str))=false/\x≠"__name__")
  (hb:∀X:Cx,X.prog=P->X.w=w->X.K=K->X.mg=mg->X.base=base->X.env.scope=aD st->Good X N N G k->DefCx X->MSs X (aN st) m) :
  FnAt P w K mg base x ps (bp N.length ps.length m) (k+1):=by
 obtain⟨f,fd,a,Fu⟩:=D.ex;have Fx:=Fu.ex;obtain⟨oc,od,kV,doc,pm,an,cdv,ct,osl,e1,e2,_⟩:=Fx;exact⟨f,fd,PySem.W.mg_of kin ns a,Fu.kp,Fu.binds B,fn_M Fu S hl hgl dbg hb,oc,od,osl,e2⟩
theorem head_M{P:Program}{w:World}{K:qaa}{mg:Str->Option Value}{h:Heap}{x y:Str}{st:Stmt}{F:List PV->MH->Out PV}{fa:Addr}(D:DefAt K x st)(B:ie x st [y])(hmg:mg x=some (.ref fa))(kin:K.In h)(ns:h.Ns mainGlobals mg)
  (H:∀base:Heap,K.In base->base.Ns mainGlobals mg->FnAt P w K mg base x [y] F k) :
  ∃fd:FuncData,(∀(s:Shared) (u:Value),BindsTo s fd ⟨[u],[]⟩ [(y,u)])/\∀base:Heap,K.In base->base.Ns mainGlobals mg->FnOk P w K mg base (CXm P w) k fa fd [y] (spM K mg F):=by
 obtain⟨f,fd,a,Fu⟩:=D.ex;have e:=hmg.symm.trans (PySem.W.mg_of kin ns a);cases e;obtain⟨oc,od,kV,doc,pm,an,cdv,ct,osl,e1,e2,e3⟩:=Fu.ex;refine⟨fd,fun s u=>.of_eq ?_,fun base kb nb=>?_⟩
 ·rw[e1];exact B kV doc pm an cdv ct [u] rfl
 ·obtain⟨f',fd',g1,g2,g3,g4,oc',od',osl',g5⟩:=(H base kb nb).ex;rw[hmg] at g1;cases g1;rw[e2] at g5;cases g5;exact g4
def spLaw(K:qaa):Sp:=fun vs H Q _=>∃(a:Addr) (ns:List Int),vs=[.ref a]/\SqF K H a (ns.map V.int)/\ns.length<=63/\∀H',Q (.bl true) H'
theorem walk_M{l:PySem.W.OpenLaw}{q:Program}{loose:List Str}{XP:(Str->Option Value)->Heap->Prop}{YP:World->Heap->Prop}{d:DefRec}{K:Params->qaa}{x:Str}{F:List PV->MH->Out PV}(hn:l.most=some 63)(hdf:d.params.defaults=[])(hr:Room k callerA)
  (hY:∀(w:World) (h:Heap),YP w h->(K w.params).In h)
  (HF:∀(w:World) (mg:Str->Option Value) (fa:Addr) (h:Heap),(K w.params).In h->h.Ns mainGlobals mg->mg d.name=some (.ref fa) ->
   ∃fd:FuncData,(∀(s:Shared) (u:Value),BindsTo s fd ⟨[u],[]⟩ [(x,u)])/\∀base:Heap,(K w.params).In base->base.Ns mainGlobals mg->FnOk l.prog w (K w.params) mg base (CXm l.prog w) k fa fd [x] (spM (K w.params) mg F))
  (ht:∀ns:List Int,ns.length<=63->∃h',F [.frl (ns.map .int)] []=.ok (.bl true) h') :
  PySem.W.WalkO q loose XP YP l.row.toRowW d [] (fun f vs=>PySem.call f vs):=by
 refine L2.walk_of (n:=63) (k:=k) (x:=x) (CX:=fun w=>CXm l.prog w) (sp:=fun w=>spLaw (K w.params)) hn (by decide) hdf hr hY (fun w mg fa h hK hns hmg=>?_) (fun w H a ns hl hO hS=>?_) fun w H s e s' z=>?_
 ·obtain⟨fd,hb,hF⟩:=HF w mg fa h hK hns hmg;refine⟨fd,hb,fun base kb nb=>(hF base kb nb).imp fun vs H Q E z=>?_⟩;obtain⟨a,ns,rfl,sf,hl,hq⟩:=z;obtain⟨h',e⟩:=ht ns hl;refine⟨[],[.frl (ns.map .int)],[],.cons (.frl sf (RPs.ints ns)) .nil,⟨rfl,List.nodup_nil,fun n a o z _=>by simp at z⟩,?_⟩;rw[e];intro ρ' H' v' _ _ r;cases r;exact hq H'
 ·have sf:SqF (K w.params) H a (ns.map V.int):=by
   rcases hS with (z|z)|z
   ·rcases hO a with y|⟨o,xs,y⟩
    ·rw[y] at z;cases z
    ·rw[y] at z;cases z
   ·exact .inl z
   ·exact .inr z
  exact⟨a,ns,rfl,sf,hl,fun _=>rfl⟩
 ·obtain⟨_,_,_,_,_,_,_,_,_,z⟩:=z;exact z
end
section
variable {α:Type} {σ:PSt} {h:MH}
@[simp] theorem mC_ap:mC v σ h=.ok v h:=rfl
@[simp] theorem mVar_0{v:PV}{r:PSt}:af 0 (some v::r) h=.ok v h:=rfl
@[simp] theorem mVar_s{i:Nat}{o:Option PV}{r:PSt}:af (i+1) (o::r) h=af i r h:=by simp[af]
@[simp] theorem mBin_ap:ai f a b σ h=(a σ h).bind fun x h1=>(b σ h1).bind fun y h2=>(f x y h2).ne:=rfl
@[simp] theorem mUn_ap:mUn f a σ h=(a σ h).bind fun x h1=>(f x h1).ne:=rfl
@[simp] theorem mCB_ap:mCB f a σ h=(a σ h).bind fun x h1=>(f x h1).ne:=rfl
@[simp] theorem mCall_ap:aR f a σ h=(a σ h).bind f:=rfl
@[simp] theorem mNil_ap:mNil σ h=.ok [] h:=rfl
@[simp] theorem mCons_ap:ae a r σ h=(a σ h).bind fun x h1=>(r σ h1).bind fun xs h2=>.ok (x::xs) h2:=rfl
@[simp] theorem mLst_ap:aZ a σ h=(a σ h).bind newL:=rfl
@[simp] theorem mTup_ap:dY a σ h=(a σ h).bind newT:=rfl
@[simp] theorem mDic_ap:mDic σ h=.ok (.loc h.length) (h++[.dic []]):=rfl
@[simp] theorem mB_ap:mB a σ h=(a σ h).bind fun v h1=>match v with | .bl b=>.ok b h1 | _=>.bad:=rfl
@[simp] theorem mNot_ap:fh a σ h=(a σ h).bind fun b h1=>.ok (!b) h1:=rfl
@[simp] theorem mAnd_ap:mQ a b σ h=(a σ h).bind fun x h1=>if x=true then b σ h1 else .ok false h1:=rfl
@[simp] theorem mOr_ap:mOr a b σ h=(a σ h).bind fun x h1=>if x=true then .ok true h1 else b σ h1:=rfl
@[simp] theorem mAndV_ap:jD a b σ h=(a σ h).bind fun x h1=>match x with | .bl c=>if c=true then b σ h1 else .ok (.bl false) h1 | _=>.bad:=rfl
@[simp] theorem mNotV_ap:lQ a σ h=(a σ h).bind fun x h1=>match x with | .bl c=>.ok (.bl (!c)) h1 | _=>.bad:=rfl
@[simp] theorem mSkip_ap:mSkip σ h=.nx σ h:=rfl
@[simp] theorem kq:aF a b σ h=(a σ h).then b:=rfl
@[simp] theorem av:(SOut.nx σ h).then k=k σ h:=rfl
@[simp] theorem then_rt:(SOut.rt v h).then k=.rt v h:=rfl
@[simp] theorem then_bk:(SOut.bk σ h).then k=.bk σ h:=rfl
@[simp] theorem then_ct:(SOut.ct σ h).then k=.ct σ h:=rfl
@[simp] theorem ub:(SOut.rse x σ h).then k=.rse x σ h:=rfl
@[simp] theorem tR:(SOut.exc x σ h).then k=.exc x σ h:=rfl
@[simp] theorem tY:SOut.bad.then k=.bad:=rfl
def Out.rt(o:Out PV)(σ:PSt):SOut:=match o with
 | .ok v h'=>.rt v h'
 | .exc x h'=>.exc x σ h'
 | .bad=>.bad
@[simp] theorem rt_ok:(Out.ok v h).rt σ=.rt v h:=rfl
@[simp] theorem rt_exc:(Out.exc x h:Out PV).rt σ=.exc x σ h:=rfl
@[simp] theorem rt_bad:(Out.bad:Out PV).rt σ=.bad:=rfl
@[simp] theorem mRet_ap:aV m σ h=(m σ h).rt σ:=rfl
def Out.go{α:Type}(o:Out α)(σ:PSt)(k:α->Mst):SOut:=match o with
 | .ok v h'=>k v σ h'
 | .exc x h'=>.exc x σ h'
 | .bad=>.bad
@[simp] theorem aE:(Out.ok v h).go σ k=k v σ h:=rfl
@[simp] theorem go_exc:(Out.exc x h:Out α).go σ k=.exc x σ h:=rfl
@[simp] theorem go_bad:(Out.bad:Out α).go σ k=.bad:=rfl
@[simp] theorem mEx_ap:mEx m k σ h=(m σ h).go σ k:=rfl
@[simp] theorem mDrop_ap:dH m σ h=(m σ h).go σ fun _=>mSkip:=rfl
@[simp] theorem mIf_ap:mIf c a b σ h=(c σ h).go σ fun x=>if x=true then a else b:=rfl
@[simp] theorem mSet_ap:aO i m σ h=(m σ h).go σ fun v σ h=>.nx (σ.set i (some v)) h:=rfl
@[simp] theorem mAsg_ap:gO m g σ h=(m σ h).go σ fun v σ h=>match g v σ h with | .nx σ2 h2=>.nx σ2 h2 | .exc x σ2 h2=>.exc x σ2 h2 | _=>.bad:=rfl
@[simp] theorem gNm_ap:gNm i v σ h=.nx (σ.set i (some v)) h:=rfl
@[simp] theorem gNl_ap:gNl [] σ h=.nx σ h:=rfl
@[simp] theorem gCn_ap:gCn a r (v::vs) σ h=(a v σ h).then (r vs):=rfl
@[simp] theorem gTp_ap:gTp r n (.tup xs) σ h=if xs.length=n then r xs σ h else .bad:=rfl
@[simp] theorem mFor_ap:gM mi g b σ h=(mi σ h).go σ fun it=>mGo it g b it.xs:=rfl
@[simp] theorem mItS_ap:db m σ h=(m σ h).bind itAny:=rfl
@[simp] theorem tU:gc m σ h=(m σ h).bind fun vs h1=>match vs with
 | [.int j]=>if -(2 ^ 62)<=j/\j<2 ^ 62 then .ok ⟨bq 0 j.toNat,[]⟩ h1 else .bad
 | _=>.bad:=rfl
@[simp] theorem gSb_ap:gSb mo mi v σ h=(mo σ h).go σ fun o=>mEx mi fun i σ h=>match jd o i v h with
 | some h2=>.nx σ h2
 | none=>.bad:=rfl
def SOut.fin(o:SOut):Out PV:=match o with
 | .nx _ h'=>.ok .non h'
 | .rt v h'=>.ok v h'
 | .exc x _ h'=>.exc x h'
 | .rse x _ h'=>.exc x h'
 | _=>.bad
@[simp] theorem fin_exc:(SOut.exc x σ h).fin=.exc x h:=rfl
@[simp] theorem fin_rse:(SOut.rse x σ h).fin=.exc x h:=rfl
@[simp] theorem dy:(SOut.rt v h).fin=.ok v h:=rfl
@[simp] theorem fin_nx:(SOut.nx σ h).fin=.ok .non h:=rfl
theorem fH(e:ps.length=np):bp n np m ps h=(m (bv n ps) h).fin:=by unfold bp;rw[qaf e];rfl
end
section
variable {h:MH} {i j:Int}
@[simp] theorem opAdd_ii:opAdd (.int i) (.int j) h=.ok (.int (i+j)) h:=rfl
@[simp] theorem opSub_ii:opSub (.int i) (.int j) h=.ok (.int (i - j)) h:=rfl
@[simp] theorem opNeg_i:opNeg (.int i) h=.ok (.int (-i)) h:=rfl
@[simp] theorem opLt_ii:opLt (.int i) (.int j) h=.ok (.bl (decide (i<j))) h:=rfl
@[simp] theorem opLe_ii:opLe (.int i) (.int j) h=.ok (.bl (decide (i<=j))) h:=rfl
@[simp] theorem opGt_ii:opGt (.int i) (.int j) h=.ok (.bl (decide (j<i))) h:=rfl
@[simp] theorem opGe_ii:opGe (.int i) (.int j) h=.ok (.bl (decide (j<=i))) h:=rfl
@[simp] theorem opEq_ii:opEq (.int i) (.int j) h=.ok (.bl (decide (i=j))) h:=by simp[opEq,rd,SeqAt.shaped,PyData.canLay0,PyData.depth,PyData.eqv,qbg]
@[simp] theorem opNe_ii:opNe (.int i) (.int j) h=.ok (.bl (!decide (i=j))) h:=by simp[opNe,rd,SeqAt.shaped,PyData.canLay0,PyData.depth,PyData.eqv,qbg]
@[simp] theorem opEq_bb:opEq (.bl a) (.bl b) h=.ok (.bl (a == b)) h:=by simp[opEq,rd,SeqAt.shaped,PyData.canLay0,PyData.depth,PyData.eqv]
@[simp] theorem opNe_bb:opNe (.bl a) (.bl b) h=.ok (.bl (!(a == b))) h:=by simp[opNe,rd,SeqAt.shaped,PyData.canLay0,PyData.depth,PyData.eqv]
theorem da(hj:j≠0):opMod (.int i) (.int j) h=.ok (.int (i.fmod j)) h:=by simp[opMod,hj]
theorem pJ(hj:j≠0)(hl:j.natAbs.log2<9000):opFd (.int i) (.int j) h=.ok (.int (i.fdiv j)) h:=by simp[opFd,hj,PyProof.noPylong_of_log2 hl]
theorem dW(hl:-(2 ^ 64)<i/\i<2 ^ 64):opMul (.int i) (.int j) h=.ok (.int (i * j)) h:=by simp[opMul,IntMulOk.of_left (intBits_le_64 hl.1 hl.2)]
theorem opMul_r(hl:-(2 ^ 64)<j/\j<2 ^ 64):opMul (.int i) (.int j) h=.ok (.int (i * j)) h:=by simp[opMul,IntMulOk.of_right (intBits_le_64 hl.1 hl.2)]
theorem mU(hj:0<=j/\j<=1000000/\i.natAbs<2 ^ 64):opPow (.int i) (.int j) h=.ok (.int (i ^ j.toNat)) h:=by simp[opPow,fe,hj]
@[simp] theorem fAbs_i:fAbs [.int i] h=.ok (.int (if i<0 then -i else i)) h:=rfl
@[simp] theorem fMin_ii:fMin [.int i,.int j] h=.ok (.int (if j<i then j else i)) h:=rfl
@[simp] theorem fMax_ii:fMax [.int i,.int j] h=.ok (.int (if j>i then j else i)) h:=rfl
@[simp] theorem fInt_i:fInt [.int i] h=.ok (.int i) h:=rfl
@[simp] theorem fInt_b:fInt [.bl b] h=.ok (.int (if b then 1 else 0)) h:=rfl
@[simp] theorem fLen_frl:fLen [.frl xs] h=.ok (.int xs.length) h:=rfl
@[simp] theorem fLen_tup:fLen [.tup xs] h=.ok (.int xs.length) h:=rfl
theorem qv(hl:xs.length<=1000):newL xs h=.ok (.loc h.length) (h++[.lst xs]):=by
 unfold newL;rw[qaf (qaA hl (by decide))]
theorem km(hl:m<n):ixN n (m:Int)=some m:=by unfold ixN;rw[qaf (by omega),qaf (by omega)];simp
@[simp] theorem atI_0:atI (a::r) 0=some a:=bT (j:=0) rfl
@[simp] theorem atI_1:atI (a::b::r) 1=some b:=bT (j:=1) rfl
@[simp] theorem atI_2:atI (a::b::c::r) 2=some c:=bT (j:=2) rfl
@[simp] theorem atI_3:atI (a::b::c::d::r) 3=some d:=bT (j:=3) rfl
def Out.ofO(o:Option PV)(h:MH):Out PV:=match o with
 | some v=>.ok v h
 | none=>.bad
@[simp] theorem ofO_some:Out.ofO (some v) h=.ok v h:=rfl
@[simp] theorem opIx_tup:aY (.tup xs) (.int i) h=Out.ofO (atI xs i) h:=rfl
@[simp] theorem opIx_frl:aY (.frl xs) (.int i) h=Out.ofO (atI xs i) h:=rfl
theorem fU(e:h[n]?=some (.lst xs)):aY (.loc n) (.int i) h=Out.ofO (atI xs i) h:=by
 simp only[aY,e];rfl
theorem i7(e:h[n]?=some (.lst xs)):jd (.loc n) (.int i) v h=(ixN xs.length i).map fun p=>h.set n (.lst (xs.set p v)):=by simp only[jd,e]
@[simp] theorem itAny_tup:itAny (.tup xs) h=.ok ⟨xs,[]⟩ h:=rfl
@[simp] theorem itAny_frl:itAny (.frl xs) h=.ok ⟨xs,[]⟩ h:=rfl
@[simp] theorem ok_none:(⟨xs,[]⟩:MIt).ok h↔True:=⟨fun _=>trivial,fun _ p hp=>nomatch hp⟩
@[simp] theorem ok_some:(⟨xs,[(n,zs)]⟩:MIt).ok h↔h[n]?=some (.lst zs):=by
 constructor
 ·intro q;exact q (n,zs) (by simp)
 ·intro q p hp;have e:p=(n,zs):=qbv.mp hp;subst e;exact q
end
def SOut.turn(o:SOut)(k:Mst):SOut:=match o with
 | .nx σ2 h2=>k σ2 h2
 | .ct σ2 h2=>k σ2 h2
 | .bk σ2 h2=>.nx σ2 h2
 | .rt v h2=>.rt v h2
 | .exc e σ2 h2=>.exc e σ2 h2
 | .rse e σ2 h2=>.rse e σ2 h2
 | .bad=>.bad
@[simp] theorem tD:(SOut.rse x σ h).turn k=.rse x σ h:=rfl
@[simp] theorem ux:(SOut.exc x σ h).turn k=.exc x σ h:=rfl
@[simp] theorem turn_nx:(SOut.nx σ h).turn k=k σ h:=rfl
@[simp] theorem turn_ct:(SOut.ct σ h).turn k=k σ h:=rfl
@[simp] theorem turn_bk:(SOut.bk σ h).turn k=.nx σ h:=rfl
@[simp] theorem turn_rt:(SOut.rt v h).turn k=.rt v h:=rfl
theorem mGo_nil(e:it.ok h):mGo it g b [] σ h=.nx σ h:=by
 rw[mGo];dsimp only;rw[qaf e]
theorem uE(e:it.ok h)(eg:g x σ h=.nx σ1 h1):mGo it g b (x::r) σ h=(b σ1 h1).turn (mGo it g b r):=by
 rw[mGo];dsimp only;rw[qaf e,eg];rfl
theorem nP(I:Nat->Shared->Prop)
  (turn:∀n s,I n s->wpAny (model prog w) A (pyNext it) (fun r s₁=>match r with
   | none=>R (.ok .next) s₁
   | some v=>wpAny (model prog w) A (letOwnedTupleGo target it v) (fun _ s₂'=>wpAny (model prog w) A (assign target env v) (fun _ s₂ =>
     wpAny (model prog w) A (forIn ifs true fun c r=>if r=true then do let ok <-isTrue c env (eval c env);pure (ForInStep.yield ok) else pure (ForInStep.yield r)) (fun ok s₃ =>
      if ok=true then wpAny (model prog w) A (eval elt env) (fun x s₄ =>
       wpAny (model prog w) A (call (.builtin "list.append") [acc,x]) (fun _ s₅=>∃m,m<n/\I m s₅) (fun _ _=>False) s₄) (fun _ _=>False) s₃
      else ∃m,m<n/\I m s₃) (fun _ _=>False) s₂) (fun _ _=>False) s₂') (fun _ _=>False) s₁) (fun _ _=>False) s)
  (n:Nat) (h:I n s) :
  codeAny (model prog w) A (.compLoop (.ListComp elt [⟨target,iter,ifs,0⟩] scope pos) 0 it acc env) R s:=by
 refine codeAny_loop rfl I (fun n s hI=>?_) n h;show wpAny _ A ((compTurn (.ListComp elt [⟨target,iter,ifs,0⟩] scope pos) 0 it acc env).onRaise (fun x=>do noteFrame x env;theTreesLotGoes x)) _ _ s;refine wpAny_noted ?_;rw[compTurn_list];have no:∀(e:Value) (s':Shared),False->notedBy (model prog w) A env (fun e s'=>R (.error e) s') e s':=fun _ _ z=>z.elim;refine qah (wpAny_standAt (qah (wpAny_mono (turn n s hI) (fun r s₁ h₁=>?_) fun _ _ h'=>h'.elim)))
 cases r with
 | none=>exact qaw h₁
 | some v =>
  refine qah (wpAny_mono h₁ (fun _ s₂' h₂'=>?_) fun _ _ h'=>h'.elim);refine qah (wpAny_mono h₂' (fun _ s₂ h₂=>qah (wpAny_mono h₂ (fun ok s₃ h₃=>?_) fun _ _ h'=>h'.elim)) fun _ _ h'=>h'.elim)
  cases ok with
  | false=>exact qaw ⟨rfl,h₃⟩
  | true =>
   exact qah (qah (wpAny_mono h₃ (fun x s₄ h₄=>qah (wpAny_mono h₄ (fun _ s₅ h₅=>qaw (qaw ⟨rfl,h₅⟩)) fun _ _ h'=>h'.elim)) fun _ _ h'=>h'.elim))
def fX(env:Env):List (Str × NameKind)->List (Str × Addr)->List (Str × Addr)
 | [],cs=>cs
 | (n,k)::r,cs=>fX env r (if (k == NameKind.free)=true then (n,(env.cells.lookup n).getD 0)::cs else cs)
theorem lK(h:∀y∈scope.names,y.2=.free->∃c,env.cells.lookup y.1=some c):closureFor scope env=pure (fX env scope.names []):=by
 have key:∀(l:List (Str × NameKind)) (cs:List (Str × Addr)),(∀y∈l,y.2=.free->∃c,env.cells.lookup y.1=some c) ->
   (forIn l cs fun (x:Str × NameKind) (r:List (Str × Addr))=>if (x.2 == NameKind.free)=true then (do let a <-cellOf env x.1;pure (ForInStep.yield ((x.1,a)::r)):Sem _) else pure (ForInStep.yield r))=(pure (fX env l cs):Sem _):=by
  intro l
  induction l with
  | nil=>intro cs _;rfl
  | cons y l ih =>
   intro cs hh;obtain⟨n,k⟩:=y;rw[List.forIn_cons];have hl:=fun z hz=>hh z (qak _ hz);by_cases hk:(k == NameKind.free)=true
   ·obtain⟨c,hc⟩:=hh (n,k) qaH (by simpa using hk);dsimp only at hc ⊢;rw[qaf hk];have hco:cellOf env n=pure c:=by unfold cellOf;rw[hc]
    rw[hco];refine (ih ((n,c)::cs) hl).trans ?_;simp only[fX,hk,if_true,hc,Option.getD_some]
   ·dsimp only;rw[qai hk];refine (ih cs hl).trans ?_;simp[fX,hk]
 unfold closureFor;exact (congrArg (fun z=>z >>= fun r=>pure r) (key scope.names [] h)).trans rfl
theorem iP:∀(l:List (Str × NameKind)) (cs:List (Str × Addr)),(∀a,cs.lookup x=some a->a=(env.cells.lookup x).getD 0)->(∀a,(fX env l cs).lookup x=some a->a=(env.cells.lookup x).getD 0)/\((∃k,(x,k)∈l/\k=.free)\/(∃a,cs.lookup x=some a)->∃a,(fX env l cs).lookup x=some a):=by
 intro l
 induction l with
 | nil =>
  intro cs h;refine⟨h,fun z=>?_⟩;rcases z with ⟨k,z,_⟩|z
  ·cases z
  ·exact z
 | cons y r ih =>
  intro cs h;obtain⟨n,k⟩:=y;have h':∀a,(if (k == NameKind.free)=true then (n,(env.cells.lookup n).getD 0)::cs else cs).lookup x=some a->a=(env.cells.lookup x).getD 0:=fun a ha=>by
   split at ha
   ·rw[qaK] at ha
    split at ha
    ·rename_i e
     have:x=n:=by simpa using e
     subst this;exact (Option.some.inj ha).symm
    ·exact h a ha
   ·exact h a ha
  obtain⟨i1,i2⟩:=ih _ h';refine⟨i1,fun z=>i2 ?_⟩;rcases z with ⟨k',z,hk⟩|⟨a,z⟩
  ·rcases qan.mp z with e|e
   ·cases e;right;subst hk;exact⟨(env.cells.lookup x).getD 0,by simp⟩
   ·exact .inl ⟨k',e,hk⟩
  ·right;split
   ·rw[qaK];split
    ·exact⟨_,rfl⟩
    ·exact⟨a,z⟩
   ·exact⟨a,z⟩
theorem bE{env:Env}(hk:env.scope.kind=.function):∀{names:List (Str × NameKind)} {x:Str} {k:NameKind},names.lookup x=some k ->
  (names.map fun (n,k)=>if (k == NameKind.free && env.scope.kind == .function && env.kindOf n == some .cell) then (n,NameKind.cell) else (n,k)).lookup x=some (if k=.free/\env.kindOf x=some .cell then .cell else k):=by
 intro names
 induction names with
 | nil=>intro x k h;simp at h
 | cons y r ih0 =>
  intro x k h;obtain⟨n,k'⟩:=y;have ih:=@ih0 x k;show List.lookup x ((if (k' == NameKind.free && env.scope.kind == .function && env.kindOf n == some .cell)=true then (n,NameKind.cell) else (n,k'))::_)=_
  cases hx:x == n with
  | true =>
   have e:x=n:=by simpa using hx
   subst e;simp only[qaK,hx] at h;cases h;by_cases z:k=.free/\env.kindOf x=some .cell
   ·rw[qaf (by simp[z.1,z.2,hk]),qaf z];simp[qaK]
   ·rw[qai (by simp[hk];intro q1 q2;exact z ⟨q1,q2⟩),qai z];simp[qaK]
  | false =>
   simp only[qaK,hx] at h;by_cases hc:(k' == NameKind.free && env.scope.kind == .function && env.kindOf n == some .cell)=true
   ·rw[qaf hc];simp only[qaK,hx];exact ih h
   ·rw[qai hc];simp only[qaK,hx];exact ih h
def b7(X:Cx)(scope:Scope)(cl:List (Str × Addr))(s₃:Shared)(H₃:Hp)(fp:List Addr)(N':List Str):Cx :=
 { X with N:=N',s₀:=s₃,H₀:=H₃,env:=compEnvC scope cl s₃.heap.objs.size X.env,outer:=X.stack,ex:=fp,fn:=fun x=>decide (scope.names.lookup x=some .cell),pn:=[],xe:=fun _ _=>False}
structure CompOk (X:Cx) (N:List Str) (scope:Scope) (vars frees:List Str) (fm:List Nat):Prop where
 kind:scope.kind=.function
 cell:∀y∈scope.names,y.2=.cell->scope.names.lookup y.1=some .cell
 names:∀y∈scope.names,y.2=.local->scope.names.lookup y.1=some .local
 hv:∀x∈vars,scope.names.lookup x=some .local\/scope.names.lookup x=some .cell
 hf:∀x∈frees,scope.names.lookup x=some .free
 all:∀y∈scope.names,y.2=.free->y.1∈frees
 fm:fm.map (fun i=>N[i]?)=frees.map some
 cl:∀x∈frees,X.env.kindOf x=some .cell
def cSt(nv:Nat)(fm:List Nat)(σ:PSt):PSt:=List.replicate nv none++fm.map fun i=>(σ[i]?).getD none
noncomputable def cGo(it:MIt)(n:Nat)(gt:Mg)(mt:Mx Bool)(me:Mx PV):List PV->PSt->MH->Out Unit
 | [],_,h=>if it.ok h then .ok () h else .bad
 | x::r,σ,h=>if it.ok h then (match gt x σ h with
  | .nx σ1 h1=>(mt σ1 h1).ne.bind fun b h2=>if b=true then (me σ1 h2).ne.bind fun v h3=>(match h3[n]? with
    | some (.lst ys)=>if ys.length<sizeLine then cGo it n gt mt me r σ1 (h3.set n (.lst (ys++[v]))) else .bad
    | _=>.bad) else cGo it n gt mt me r σ1 h2
  | _=>.bad) else .bad
noncomputable def bO(nv:Nat)(fm:List Nat)(mi:Mx MIt)(gt:Mg)(mt:Mx Bool)(me:Mx PV):Mx PV:=fun σ h =>
 (mi σ h).bind fun it h1=>(cGo it h1.length gt mt me it.xs (cSt nv fm σ) (h1++[.lst []])).bind fun _ h3=>.ok (.loc h1.length) h3
def MTs(X:Cx)(ifs:List Expr)(m:Mx Bool):Prop :=
 ∀(BN:List (Addr × Obj)) (s:Shared) (σ:L2.St) (H:Hp) (Q:Bool->Hp->Prop),Inv X BN σ H s->tM X REq m σ H Q ->
  wpAny (model X.prog X.w) X.A (forIn ifs true fun c r=>if r=true then do let ok <-isTrue c X.env (eval c X.env);pure (ForInStep.yield ok) else pure (ForInStep.yield r)) (TP X BN σ Q) X.xe s
def mTrue:Mx Bool:=fun _ h=>.ok true h
theorem fo:MTs X [] mTrue:=fun BN s σ H Q I ⟨ρ,σp,h,rs,rh,q⟩=>wpAny_tests_nil ⟨H,I,q ρ H true (Le.refl _ _) rh rfl⟩
theorem kO(h:MT X c m):MTs X [c] m:=fun BN s σ H Q I q=>wpAny_tests_one (h BN s σ H Q I q)
inductive CS (X:Cx) (ρ:List Addr) (H:Hp) (σp:PSt) (gt:Mg) (mt:Mx Bool) (me:Mx PV) (σ0:PSt) (Q:VK) (J:It) (H1:Hp):Prop
 | mk (ρ1:List Addr) (it:MIt) (h1:MH) (l:Le ρ H ρ1 H1) (rh:RH X.K X.mg ρ1 H1 h1) (j:nu X ρ1 H1 it J) (q:Ful X (RV' X) σp ρ1 H1 ((cGo it h1.length gt mt me it.xs σ0 (h1++[.lst []])).bind fun _ h3=>.ok (.loc h1.length) h3) Q):CS X ρ H σp gt mt me σ0 Q J H1
inductive CI (X Y:Cx) (it:MIt) (tn:Nat->Heap->Prop) (fp ρ0:List Addr) (H0:Hp) (σp:PSt) (n1:Nat) (gt:Mg) (mt:Mx Bool) (me:Mx PV) (Q:VK) (n:Nat) (s6:Shared):Prop
 | mk (i:Nat) (σ6:L2.St) (H6:Hp) (ρ6:List Addr) (σp6:PSt) (h6:MH) (e:n=it.xs.length - i) (l:i<=it.xs.length) (v:Inv Y [] σ6 H6 s6) (t:tn i s6.heap) (f:∀b∈fp,H6 b=none) (le:Le ρ0 H0 ρ6 H6) (rs:RS X.K ρ6 H6 σp6 σ6) (rh:RH X.K X.mg ρ6 H6 h6)
   (q:Ful X (RV' X) σp ρ6 H6 ((cGo it n1 gt mt me (it.xs.drop i) σp6 h6).bind fun _ h3=>.ok (.loc n1) h3) Q):CI X Y it tn fp ρ0 H0 σp n1 gt mt me Q n s6
theorem lI
  (hQ:Q (newEnv scope s.heap.objs.size globals (cellsFrom (s.heap.objs.size+1) scope.names closure) qual none .none (some env) builtinsNs) { s with heap:=pushCells (s.heap.push { cls:=.type "dict",data:=.dict #[]}) scope.names}) :
  wpAny M A (newFunctionEnv scope globals closure [] qual none .none (some env)) Q E s:=by
 simp only[newFunctionEnv,Option.isSome_some,if_true];refine qah (wpAny_alloc ?_);refine qah (wpAny_layCells _ (fun name kind cells=>by cases hkc:kind == NameKind.cell <;> simp[hkc]) _ _ _ _ ?_);rw[show ({ s with heap:=s.heap.push { cls:=.type "dict",data:=.dict #[]}}:Shared).heap.objs.size=s.heap.objs.size+1 from qbz ..];rw[List.forIn_nil];exact qah (qaw (qaw hQ))
theorem bV:∀(names:List (Str × NameKind)) (n:Nat) (acc:List (Str × Addr)),cellsFrom n names acc=cellsFrom n names []++acc
 | [],n,acc=>rfl
 | (x,k)::r,n,acc=>by
  unfold cellsFrom;split
  ·rw[bV r (n+1) ((x,n)::acc),bV r (n+1) [(x,n)]];simp
  ·exact bV r n acc
theorem cW:∀(names:List (Str × NameKind)) (n:Nat) (x:Str),(∃c,(x,c)∈cellsFrom n names [])↔(x,NameKind.cell)∈names
 | [],n,x=>by simp[cellsFrom]
 | (y,k)::r,n,x=>by
  unfold cellsFrom;split
  ·rename_i hk
   have hk':k=NameKind.cell:=by simpa using hk
   subst hk';rw[bV];constructor
   ·rintro⟨c,hc⟩;rcases qav.mp hc with hc|hc
    ·exact qak _ ((cW r (n+1) x).mp ⟨c,hc⟩)
    ·have:x=y:=by simp at hc;exact hc.1
     rw[this];exact qaH
   ·intro h;rcases qan.mp h with e|h
    ·have:x=y:=by simpa using e
     subst this;exact⟨n,qac _ (by simp)⟩
    ·obtain⟨c,hc⟩:=(cW r (n+1) x).mpr h;exact⟨c,qay _ hc⟩
  ·rename_i hk
   rw[cW r n x];constructor
   ·exact qak _
   ·intro h;rcases qan.mp h with e|h
    ·exfalso
     have:NameKind.cell=k:=by simpa using (Prod.mk.inj e).2
     rw[<-this] at hk;exact hk rfl
    ·exact h
theorem fW{α:Type}:∀(a b:List (Str × α)) (x:Str),(a++b).lookup x=(a.lookup x).or (b.lookup x)
 | [],b,x=>rfl
 | (y,v)::a,b,x=>by
  rw[List.cons_append,qaK,qaK]
  cases x == y with
  | true=>rfl
  | false=>exact fW a b x
theorem nM{α:Type}:∀(a:List (Str × α)) (x:Str),a.lookup x=none->∀c,(x,c)∉a
 | [],x,_,c,h=>nomatch h
 | (y,v)::a,x,e,c,h=>by
  rw[qaK] at e
  cases z:x == y with
  | true=>rw[z] at e;cases e
  | false =>
   rw[z] at e;rcases qan.mp h with q|q
   ·have:x=y:=(Prod.mk.inj q).1
    rw[this] at z;simp at z
   ·exact nM a x e c q
section
variable {X:Cx} {N W G:List Str} {k:Nat}
theorem ly(g:Good X N W G k){tg iter elt:Expr}{ifs:List Expr}{scope:Scope}{pos:Pos}{vars frees G':List Str}{fm:List Nat}{mi:Mx MIt}{gt:Mg}{mt:Mx Bool}{me:Mx PV}(C:CompOk X N scope vars frees fm)
  (nd:(vars++frees).Nodup) (hgl:∀x∈G',scope.names.lookup x=some .globalImplicit) (dbg:∀x∈(vars++frees)++G',(x == ("__debug__":Str))=false/\(x == ("__classdict__":Str))=false/\x≠"__name__")
  (hi:MI X tg iter mi)
  (hY:∀Y:Cx,Y.prog=X.prog->Y.w=X.w->Y.K=X.K->Y.mg=X.mg->Y.base=X.base->Y.env.scope=relabel scope X.env->Good Y (vars++frees) vars G' k->MG Y tg gt/\MTs Y ifs mt/\ME Y elt me)
  (hs:∀x,foldedSetIterable iter X.env x=pure x) {use:Option (Value->Sem Unit)} {Qv:Value->Shared->Prop} {pp:Pos} {BN:List (Addr × Obj)} {s:Shared} {σ:L2.St} {H:Hp} {Q:VK} (I:Inv X BN σ H s) (tm:tM X (RV' X) (bO vars.length fm mi gt mt me) σ H Q)
  (fin:∀(acc C:Addr) (H6:Hp) (s7:Shared) (m7:Str->Option Value),Inv X BN σ H6 s7->H6 C=none->s7.heap.Ns C m7->C≠X.env.locals->X.s₀.heap.objs.size<=C->C∉X.fs->(∀x c,X.env.cells.lookup x=some c->c≠C)->(∀p∈X.pn++BN,p.1≠C)->Q (.ref acc) H6 ->
   compPost (model X.prog X.w) X.A X.xe use Qv (.ref acc) C (.ok .next) s7) :
  wpAny (model X.prog X.w) X.A (comprehension (.ListComp elt [⟨tg,iter,ifs,0⟩] scope pos) scope X.env pp (newList []) false (eval iter X.env) use) Qv X.xe s:=by
 obtain⟨ρ,σp,h,rs,rh,q⟩:=tm;have hfree:∀y∈scope.names,y.2=.free->∃c,X.env.cells.lookup y.1=some c:=fun y hy e=>I.ok.has y.1 (.inl (C.cl _ (C.all y hy e)));refine wpAny_comprehension_free (use:=use) rfl hs (lK hfree) C.kind C.names ?_;generalize hcl:fX X.env scope.names []=cl;have clk:∀x a,cl.lookup x=some a->X.env.cells.lookup x=some a\/((X.env.cells.lookup x)=none/\a=0):=fun x a e=>by
  rw[<-hcl] at e
  have:=(iP (env:=X.env) (x:=x) scope.names [] (fun a z=>by simp at z)).1 a e
  cases z:X.env.cells.lookup x with
  | none=>right;rw[z] at this;exact⟨rfl,this⟩
  | some c=>left;rw[z] at this;rw[this];rfl
 have clf:∀x∈frees,∃c,cl.lookup x=some c/\X.env.cells.lookup x=some c:=fun x hx=>by
  obtain⟨c,hc⟩:=I.ok.has x (.inl (C.cl x hx));have hm:(∃kk,(x,kk)∈scope.names/\kk=.free):=⟨.free,PySem.mem_of_lookup (C.hf x hx),rfl⟩;obtain⟨a,ha⟩:=(iP (env:=X.env) (x:=x) scope.names [] (fun a z=>by simp at z)).2 (.inl hm);rw[hcl] at ha;rcases clk x a ha with z|⟨z,_⟩
  ·rw[hc] at z;cases z;exact⟨c,ha,hc⟩
  ·rw[hc] at z;cases z
 have clin:∀x a,cl.lookup x=some a->X.env.cells.lookup x=some a/\x∈frees:=fun x a e=>by
   have only:∀(l:List (Str × NameKind)) (cs:List (Str × Addr)) (x:Str) (a:Addr),(fX X.env l cs).lookup x=some a->(x,NameKind.free)∈l\/cs.lookup x=some a:=by
    intro l
    induction l with
    | nil=>intro cs x a e;exact .inr e
    | cons y l ih =>
     intro cs x a e;obtain⟨n,kk⟩:=y;rcases ih _ x a e with z|z
     ·exact .inl (qak _ z)
     ·split at z
      ·rename_i hk
       have hk':kk=NameKind.free:=by simpa using hk
       rw[qaK] at z
       split at z
       ·rename_i e'
        have:x=n:=by simpa using e'
        subst this;subst hk';exact .inl qaH
       ·exact .inr z
      ·exact .inr z
   have e':=e;rw[<-hcl] at e';rcases only _ _ x a e' with z'|z'
   ·refine⟨?_,C.all _ z' rfl⟩;rcases clk x a e with z|⟨z,_⟩
    ·exact z
    ·obtain⟨c,hc⟩:=hfree _ z' rfl;rw[z] at hc;cases hc
   ·simp at z'
 have start:=hi BN s σ H (CS X ρ H σp gt mt me (cSt vars.length fm σp) Q) I
  ⟨ρ,σp,h,rs,rh,Ful.bind q fun ρ1 H1 it J h1 _ l1 rh1 jr q1=>⟨ρ1,it,h1,l1,rh1,jr,q1⟩⟩
 refine wpAny_mono start (fun x s₁ h₁=>wpAny_mono h₁ (fun itv s₂ h₂=>?_) fun _ _ e=>e) fun _ _ e=>e;obtain⟨ita,fp,tn,J,H2,rfl,I2,T,st2,f2,ρ1,it,h1,l1,rh1,jr,q1⟩:=h₂;refine wpAny_newObj_type ?_;have hf2:H2 s₂.heap.objs.size=none:=I2.hok.fresh (qag _);have I3:=I2.lnew (ys:=[]) (its:=[]) (t':=s₂.toks) .nil (qaG _);obtain⟨rh3,l3⟩:=rh1.new hf2 (o:=.lst []) (ho:=.lst []) ⟨[],rfl,.nil⟩;generalize hs3:({ s₂ with heap:=s₂.heap.push { cls:=.type "list",data:=.seq ([]:List Value).toArray},toks:=s₂.toks}:Shared)=s₃ at I3;generalize hH3:upd H2 s₂.heap.objs.size (.lst [])=H₃ at I3 rh3 l3;have hacc:H₃ s₂.heap.objs.size=some (.lst []):=by rw[<-hH3];exact bz
 have es3:s₃.heap=s₂.heap.push { cls:=.type "list",data:=.seq ([]:List Value).toArray}:=by rw[<-hs3]
 have st3:tn 0 s₃.heap:=T.keep _ _ _ st2 fun b _ o e=>by rw[es3];exact qae _ e
 have fp3:∀b∈fp,fi X BN H₃ b:=fun b hb=>by
  obtain⟨a0,a1⟩:=f2 b hb;refine⟨?_,a1⟩;obtain⟨o,eo,_⟩:=T.obj _ _ st2 b hb;rw[<-hH3,aH (qaJ (qao eo))];exact a0
 have goal3:wpAny (model X.prog X.w) X.A (newFunctionEnv scope X.env.globals cl [] X.env.qual none .none (some X.env)) (fun cenv s₄ =>
    codeAny (model X.prog X.w) X.A (.compStart (.ListComp elt [⟨tg,iter,ifs,0⟩] scope pos) 0 (.ref ita) (.ref s₂.heap.objs.size) { cenv with scope:=relabel scope X.env}) (compPost (model X.prog X.w) X.A X.xe use Qv (.ref s₂.heap.objs.size) cenv.locals) s₄) X.xe s₃:=by
  refine lI ?_;have keep4:∀b o,s₃.heap.get? b=some o->(pushCells (s₃.heap.push { cls:=.type "dict",data:=.dict #[]}) scope.names).get? b=some o:=fun b o e=>pushCells_keeps _ _ b o (qae _ e);have hns:=(Heap.Ns.new s₃.heap (.type "dict")).keeps (pushCells_keeps scope.names _);have okc:=cellsFrom_ok scope.names (s₃.heap.push { cls:=.type "dict",data:=.dict #[]}) (s₃.heap.objs.size+1) [] ⟨fun _ _ hm=>(nomatch hm),List.Pairwise.nil⟩ (by rw[qbz];exact qag _);rw[qbz] at okc;rw[bV];have hin:=cW scope.names (s₃.heap.objs.size+1);generalize cellsFrom (s₃.heap.objs.size+1) scope.names []=cn at okc hin ⊢;generalize pushCells (s₃.heap.push { cls:=.type "dict",data:=.dict #[]}) scope.names=h' at keep4 hns okc ⊢;dsimp only[newEnv];have csl:∀x c,(cn++cl).lookup x=some c->((x,c)∈cn/\scope.names.lookup x=some .cell/\s₃.heap.objs.size<c/\h'.IsCell c none)\/(X.env.cells.lookup x=some c/\scope.names.lookup x=some .free):=fun x c e=>by
   rw[fW] at e
   cases z:cn.lookup x with
   | some c' =>
    rw[z] at e
    have:c'=c:=by simpa using e
    subst this;have m:=PySem.mem_of_lookup z;obtain⟨q1,q2⟩:=okc.empty x c' m;exact .inl ⟨m,C.cell _ ((hin x).mp ⟨c',m⟩) rfl,q2,q1⟩
   | none =>
    rw[z] at e;obtain⟨q1,q2⟩:=clin x c (by simpa using e);exact .inr ⟨q1,C.hf x q2⟩
  have csf:∀x c,x∈frees->cl.lookup x=some c->(cn++cl).lookup x=some c:=fun x c hx e=>by
   rw[fW]
   cases z:cn.lookup x with
   | none=>simpa using e
   | some c' =>
    have:=C.cell _ ((hin x).mp ⟨c',PySem.mem_of_lookup z⟩) rfl
    rw[C.hf x hx] at this;cases this
  have old:∀x c,X.env.cells.lookup x=some c->c<s₃.heap.objs.size:=fun x c e=>by
   obtain⟨v,qc⟩:=I3.cell x c e;exact qc.lt
  have ok:(b7 X scope (cn++cl) s₃ H₃ fp (vars++frees)).Ok:=by
   refine⟨I3.ok.mod,C.kind,I3.ok.glob,I3.ok.blt,qag _,fun x y c h1 h2=>?_,fun x hx=>?_,fun x c hx e=>?_,I3.ok.hd,I3.ok.frames,.inl rfl,
    fun b hb=>⟨?_,fun x c e z=>?_⟩,I3.bs,qaA I3.ok.bsz I3.sz,fun b o e hb=>?_,fun b hb z=>?_,I3.stack,I3.stkFree⟩
   ·rcases csl x c h1 with ⟨a1,_,a2,_⟩|⟨a1,_⟩ <;> rcases csl y c h2 with ⟨b1,_,b2,_⟩|⟨b1,_⟩
    ·exact PySem.name_of_addr okc.apart a1 b1
    ·exact absurd (qcr a2 (old y c b1)) (qaO _)
    ·exact absurd (qcr b2 (old x c a1)) (qaO _)
    ·exact I3.ok.inj x y c a1 b1
   ·
    have hx':(relabel scope X.env).names.lookup x=some .cell\/(relabel scope X.env).names.lookup x=some .free:=hx
    cases e:scope.names.lookup x with
    | none =>
     exfalso;have nn:∀(l:List (Str × NameKind)),l.lookup x=none->(l.map fun (n,k)=>if (k == NameKind.free && X.env.scope.kind == .function && X.env.kindOf n == some .cell) then (n,NameKind.cell) else (n,k)).lookup x=none:=by
      intro l
      induction l with
      | nil=>intro _;rfl
      | cons y l ih =>
       intro hl;obtain⟨n,kk⟩:=y;rw[qaK] at hl
       split at hl
       ·cases hl
       ·rename_i hx2
        rw[qaL];dsimp only
        split <;> (rw[qaK];simp only[hx2];exact ih hl)
     have e2:=nn scope.names e;rcases hx' with z|z
     ·rw[show (relabel scope X.env).names.lookup x=none from e2] at z;cases z
     ·rw[show (relabel scope X.env).names.lookup x=none from e2] at z;cases z
    | some kk =>
     have e2:=bE (env:=X.env) I3.ok.kind e;have hk:kk=.free\/kk=.cell:=by
      rcases hx' with z|z
      ·rw[show (relabel scope X.env).names.lookup x=_ from e2] at z;have z':=Option.some.inj z;by_cases zz:kk=.free/\X.env.kindOf x=some .cell
       ·exact .inl zz.1
       ·rw[qai zz] at z';exact .inr z'
      ·rw[show (relabel scope X.env).names.lookup x=_ from e2] at z;have z':=Option.some.inj z;by_cases zz:kk=.free/\X.env.kindOf x=some .cell
       ·exact .inl zz.1
       ·rw[qai zz] at z';exact .inl z'
     rcases hk with hk|hk
     ·subst hk;have hf:=C.all _ (PySem.mem_of_lookup e) rfl;obtain⟨c,h1,_⟩:=clf x hf;exact⟨c,csf x c hf h1⟩
     ·subst hk;obtain⟨c,hc⟩:=(hin x).mpr (PySem.mem_of_lookup e);show ∃c,(cn++cl).lookup x=some c;rw[fW]
      cases z:cn.lookup x with
      | some c'=>exact⟨c',rfl⟩
      | none=>exact absurd hc (nM cn x z c)
   ·have hx':=of_decide_eq_true hx;rcases csl x c e with ⟨_,_,q,_⟩|⟨_,q⟩
    ·exact qbF q
    ·rw[q] at hx';cases hx'
   ·obtain⟨o,eo,_⟩:=T.obj _ _ st3 b hb;exact qaJ (qao eo)
   ·rcases csl x c e with ⟨_,_,q,_⟩|⟨q,_⟩
    ·obtain⟨o,eo,_⟩:=T.obj _ _ st3 b hb;exact absurd (qcr q (z▸qao eo)) (qaO _)
    ·exact (fp3 b hb).2.2.2.2.1 x c q z
   ·obtain⟨_,_,_,h4,_⟩:=fp3 b hb;rcases h4 with h4|h4
    ·exact I3.ok.noex b o e h4
    ·exact absurd (qat (qao e) (qaA I3.ok.bsz h4)) (qaO _)
   ·obtain⟨_,h2,h3,_⟩:=fp3 b hb;rcases qan.mp (I3.stkSub b z) with e|e
    ·exact h2 e
    ·exact h3 e
  obtain⟨mX,nsX,lX⟩:=I3.loc;have l13:Le ρ H (ρ1++[s₂.heap.objs.size]) H₃:=l1.trans l3
  let σY:L2.St:=List.replicate vars.length none++fm.map fun i=>(σ[i]?).getD none
  have fml:fm.length=frees.length:=by have:=congrArg List.length C.fm;simpa using this
  have invY:Inv (b7 X scope (cn++cl) s₃ H₃ fp (vars++frees)) [] σY H₃ { s₃ with heap:=h',toks:=s₃.toks}:=by
   refine⟨ok,rfl,I3.bare,Un.kept keep4,⟨_,hns,fun i x v hN hv hvis=>?_⟩,fun x c e=>?_,?_,fun x c e=>?_,fun p hp=>absurd (show p∈([]:List (Addr × Obj)) from hp) (by simp),I3.hok.kept keep4,?_⟩
   ·have hN':(vars++frees)[i]?=some x:=hN;have hiv:vars.length<=i:=by
     by_cases z:vars.length<=i
     ·exact z
     ·exfalso;have hv':σY[i]?=some (some v):=hv;rw[qaj (by simp;omega),qbc] at hv'
      split at hv' <;> cases hv'
    have hv':σY[i]?=some (some v):=hv;rw[qau (by simpa using hiv),qbk,qax] at hv';rw[qau hiv] at hN'
    cases ej:fm[i - vars.length]? with
    | none=>rw[ej] at hv';cases hv'
    | some j =>
     rw[ej] at hv';have ef:=congrArg (fun l=>l[i - vars.length]?) C.fm;simp only[qax,ej,hN',qbK] at ef;have ef':N[j]?=some x:=by simpa using ef
     have ev:σ[j]?=some (some v):=by
      have:(σ[j]?).getD none=some v:=by simpa using hv'
      cases z:σ[j]? with
      | none=>rw[z] at this;cases this
      | some o=>rw[z] at this;simp at this;rw[this]
     have hx:x∈frees:=qaV hN';have vis:Vis X.env.scope x:=.inr (.inl (C.cl x hx));obtain⟨u,ru,look⟩:=lX j x v (by rw[g.hN];exact ef') ev vis;refine⟨u,ru,.inr ⟨?_,?_⟩⟩
     ·left;show (relabel scope X.env).names.lookup x=some .cell
      have:=bE (env:=X.env) I3.ok.kind (C.hf x hx)
      rw[qaf ⟨rfl,C.cl x hx⟩] at this;exact this
     ·rcases look with ⟨hk,_⟩|⟨_,c,hc,hcell⟩
      ·rw[C.cl x hx] at hk;cases hk
      ·obtain⟨c',h1,h2⟩:=clf x hx;rw[hc] at h2;cases h2;obtain⟨o,eo,ed⟩:=hcell;exact⟨c,csf x c hx h1,o,keep4 _ _ eo,ed⟩
   ·rcases csl x c e with ⟨_,_,_,q⟩|⟨q,_⟩
    ·exact⟨none,q⟩
    ·obtain⟨v,o,eo,ed⟩:=I3.cell x c q;exact⟨v,o,keep4 _ _ eo,ed⟩
   ·exact I3.hok.fresh (qag _)
   ·rcases csl x c e with ⟨_,_,q,_⟩|⟨q,_⟩
    ·exact I3.hok.fresh (qbF q)
    ·exact I3.freeC x c q
   ·show σY.length=(vars++frees).length;simp[σY,fml]
  have gY:Good (b7 X scope (cn++cl) s₃ H₃ fp (vars++frees)) (vars++frees) vars G' k:=by
   refine⟨rfl,nd,fun x hx=>?_,fun x hx=>?_,fun x hx=>?_,dbg,g.calm,g.room,PassesOwn.never⟩
   ·rcases qav.mp hx with z|z
    ·rcases C.hv x z with z|z
     ·left
      have:=bE (env:=X.env) I3.ok.kind z
      rw[qai (fun q=>nomatch q.1)] at this;exact this
     ·right
      have:=bE (env:=X.env) I3.ok.kind z
      rw[qai (fun q=>nomatch q.1)] at this;exact this
    ·right
     have:=bE (env:=X.env) I3.ok.kind (C.hf x z)
     rw[qaf ⟨rfl,C.cl x z⟩] at this;exact this
   ·rcases C.hv x hx with z|z
    ·right
     have:=bE (env:=X.env) I3.ok.kind z
     rw[qai (fun q=>nomatch q.1)] at this;exact this
    ·exact .inl (decide_eq_true z)
   ·have:=bE (env:=X.env) I3.ok.kind (hgl x hx)
    rw[qai (fun q=>nomatch q.1)] at this;exact this
  obtain⟨hg,ht,he⟩:=hY (b7 X scope (cn++cl) s₃ H₃ fp (vars++frees)) rfl rfl rfl rfl rfl rfl gY;have rsY:RS X.K (ρ1++[s₂.heap.objs.size]) H₃ (cSt vars.length fm σp) σY:=by
   refine⟨by simp[σY,cSt],fun i v e=>?_⟩;unfold cSt at e;by_cases z:vars.length<=i
   ·rw[qau (by simpa using z),qbk,qax] at e
    cases ej:fm[i - vars.length]? with
    | none=>rw[ej] at e;cases e
    | some j =>
     rw[ej] at e;have ev:σp[j]?=some (some v):=by
      have:(σp[j]?).getD none=some v:=by simpa using e
      cases z:σp[j]? with
      | none=>rw[z] at this;cases this
      | some o=>rw[z] at this;simp at this;rw[this]
     obtain⟨v',e',rv⟩:=rs.2 j v ev;refine⟨v',?_,rv.le l13⟩;show σY[i]?=_;rw[qau (by simpa using z),qbk,qax,ej];simp[e']
   ·rw[qaj (by simp;omega),qbc] at e
    split at e <;> cases e
  have q3:Ful X (RV' X) σp (ρ1++[s₂.heap.objs.size]) H₃ ((cGo it h1.length gt mt me it.xs (cSt vars.length fm σp) (h1++[.lst []])).bind fun _ h3=>.ok (.loc h1.length) h3) Q:=Ful.le l3 q1;have hrho:(ρ1++[s₂.heap.objs.size])[h1.length]?=some s₂.heap.objs.size:=by rw[<-rh1.len];simp
  have loop:∀s₅:Shared,s₅={ s₃ with heap:=h',toks:=s₃.toks}->codeAny (model X.prog X.w) X.A (.compLoop (.ListComp elt [⟨tg,iter,ifs,0⟩] scope pos) 0 (.ref ita) (.ref s₂.heap.objs.size) (compEnvC scope (cn++cl) s₃.heap.objs.size X.env))
    (compPost (model X.prog X.w) X.A X.xe use Qv (.ref s₂.heap.objs.size) s₃.heap.objs.size) s₅:=by
   rintro s₅ rfl;refine nP (CI X (b7 X scope (cn++cl) s₃ H₃ fp (vars++frees)) it tn fp (ρ1++[s₂.heap.objs.size]) H₃ σp h1.length gt mt me Q) ?_ it.xs.length
    ⟨0,σY,H₃,_,_,_,rfl,qaG _,invY,T.keep _ _ _ st3 (fun b _ o e=>keep4 b o e),fun b hb=>(fp3 b hb).1,Le.refl _ _,rsY,rh3,by simpa using q3⟩
   rintro n s6 ⟨i,σ6,H6,ρ6,σp6,h6,rfl,hi6,I6,st6,fr6,l6,rs6,rh6,q6⟩;have stat:∀{H':Hp},(∀b∈fp,H' b=none)->∀b∈fp,fi (b7 X scope (cn++cl) s₃ H₃ fp (vars++frees)) [] H' b:=fun {H'} hn b hb =>
    ⟨hn b hb,(ok.exf b hb).1,ok.exfs b hb,.inl hb,(ok.exf b hb).2,fun p hp=>absurd (show p∈([]:List (Addr × Obj)) from hp) (by simp)⟩
   by_cases hlt:i<it.xs.length
   ·have ed:it.xs.drop i=it.xs[i]::it.xs.drop (i+1):=qaQ hlt;rw[ed] at q6;simp only[cGo] at q6;by_cases hok:it.ok h6
    ·rw[qaf hok] at q6;obtain⟨j1,_⟩:=jr ρ6 H6 h6 i (l3.trans l6) rh6 hok;obtain⟨go,yl⟩:=j1 hlt;refine thn (T.item (b7 X scope (cn++cl) s₃ H₃ fp (vars++frees)) rfl rfl rfl g.calm i [] s6 σ6 H6 (fun _ _=>False) I6 (stat fr6) st6 go) fun r s7 ⟨u,hr,h7⟩=>?_;subst hr;refine thn h7 fun _ s8 ⟨x8,H8,I8,r8,y8,st8,fr8⟩=>?_;obtain⟨ρ8,x,l8,rh8,ex,rx⟩:=yl x8 H8 y8;have ex':x=it.xs[i]:=by rw[qaB hlt] at ex;exact (Option.some.inj ex).symm
     subst ex';have I8p:=I8.pinned (stat fr8) (T.obj _ _ st8);have q8:=Ful.le l8 q6;have back:∀{σ9:L2.St} {H9:Hp} {s9:Shared},Inv (b7 X scope (cn++cl) s₃ H₃ fp (vars++frees)) ([]++gW fp s8.heap) σ9 H9 s9->Inv (b7 X scope (cn++cl) s₃ H₃ fp (vars++frees)) [] σ9 H9 s9/\tn (i+1) s9.heap/\∀b∈fp,H9 b=none:=fun {σ9 H9 s9} I9=>by
      refine⟨I9.unpinned,T.keep _ _ _ st8 fun b hb o e=>(I9.pin (b,o) (qac _ (qac _ (dD hb e)))).1,fun b hb=>?_⟩;obtain⟨o,e,d⟩:=T.obj _ _ st8 b hb;exact (I9.pin (b,o) (qac _ (qac _ (dD hb e)))).2.1
     cases eg:gt it.xs[i] σp6 h6 with
     | nx σp9 h9 =>
      rw[eg] at q8;dsimp only at q8
      refine thn (hg _ s8 σ6 H8 x8 u (fun σ' H'=>∃ρ',Le ρ8 H8 ρ' H'/\RH X.K X.mg ρ' H' h9/\RS X.K ρ' H' σp9 σ') I8p r8 ⟨ρ8,σp6,h6,_,rs6.le l8,rh8,rx,by
       show i9 _ _ _ (gt it.xs[i] σp6 h6) _
       rw[eg];exact fun ρ' H' σ' l r s=>⟨ρ',l,r,s⟩⟩) fun _ s9 ⟨σ9,H9,I9,ρ9,l9,rh9,rs9⟩=>?_
      have q9:=Ful.le l9 q8
      cases em:mt σp9 h9 with
      | ok b h10 =>
       rw[em,Out.ne_ok] at q9;rw[Out.bind_ok] at q9
       refine thn (ht _ s9 σ9 H9 (fun b' H'=>b'=b/\∃ρ',Le ρ9 H9 ρ' H'/\RH X.K X.mg ρ' H' h10) I9 ⟨ρ9,σp9,h9,rs9,rh9,by
        show Ful _ _ _ _ _ (mt σp9 h9) _
        rw[em];exact fun ρ' H' v' l r e=>⟨e.symm,ρ',l,r⟩⟩) fun b' s10 ⟨H10,I10,eb,ρ10,l10,rh10⟩=>?_
       subst eb;have q10:=Ful.le l10 q9
       cases b' with
       | false =>
        rw[qai qaI] at q10 ⊢;obtain⟨I10',st10,fr10⟩:=back I10;exact⟨_,by omega,i+1,σ9,H10,ρ10,σp9,h10,rfl,hlt,I10',st10,fr10,l6.trans (l8.trans (l9.trans l10)),rs9.le l10,rh10,q10⟩
       | true =>
        rw[qaf rfl] at q10 ⊢
        cases ee:me σp9 h10 with
        | ok v h11 =>
         rw[ee,Out.ne_ok] at q10;rw[Out.bind_ok] at q10
         refine thn (he _ s10 σ9 H10 (fun v' H'=>∃ρ',Le ρ10 H10 ρ' H'/\RH X.K X.mg ρ' H' h11/\RP X.K ρ' H' v v') I10 ⟨ρ10,σp9,h10,rs9.le l10,rh10,by
          show Ful _ _ _ _ _ (me σp9 h10) _
          rw[ee];exact fun ρ' H' v' l r e=>⟨ρ',l,r,e⟩⟩) fun u11 s11 ⟨v',H11,I11,ru11,ρ11,l11,rh11,rv11⟩=>?_
         have q11:=Ful.le l11 q10;have lall:Le (ρ1++[s₂.heap.objs.size]) H₃ ρ11 H11:=l6.trans (l8.trans (l9.trans (l10.trans l11)));obtain⟨oa,eoa,roa⟩:=rh11.obj (lall.get hrho);rw[eoa] at q11
         cases oa with
         | dic kvs=>exact q11.elim
         | exc x=>exact q11.elim
         | lst ys =>
          dsimp only at q11;by_cases hl11:ys.length<sizeLine
          ·rw[qaf hl11] at q11;obtain⟨ys',ey',ry⟩:=roa;obtain⟨rh12,l12⟩:=rh11.put (lall.get hrho) (o:=.lst (ys++[v])) (ho:=.lst (ys'++[v'])) ⟨_,rfl,ry.append (.cons rv11 .nil)⟩;have ap:=kU (X:=b7 X scope (cn++cl) s₃ H₃ fp (vars++frees)) _ s11 σ9 H11 (.ref s₂.heap.objs.size) [v'] (.ref s₂.heap.objs.size) [u11] (fun _ H'=>H'=upd H11 s₂.heap.objs.size (.lst (ys'++[v']))) I11 rfl (.cons ru11 .nil) ⟨s₂.heap.objs.size,ys',v',rfl,rfl,ey',by rw[<-ry.length];exact hl11,rfl⟩;refine thn ap fun _ s12 ⟨_,H12,I12,_,eH⟩=>?_;subst eH;obtain⟨I12',st12,fr12⟩:=back I12;exact⟨_,by omega,i+1,σ9,_,ρ11,σp9,_,rfl,hlt,I12',st12,fr12,lall.trans l12,(rs9.le l10).le (l11.trans l12),rh12,Ful.le l12 q11⟩
          ·rw[qai hl11] at q11;exact q11.elim
        | exc x h11=>rw[ee] at q10;exact q10.elim
        | bad=>rw[ee] at q10;exact q10.elim
      | exc x h10=>rw[em] at q9;exact q9.elim
      | bad=>rw[em] at q9;exact q9.elim
     | _=>rw[eg] at q8;exact q8.elim
    ·rw[qai hok] at q6;exact q6.elim
   ·have e:i=it.xs.length:=by omega
    rw[e,List.drop_length] at q6;simp only[cGo] at q6;by_cases hok:it.ok h6
    ·rw[qaf hok] at q6;obtain⟨_,j2⟩:=jr ρ6 H6 h6 i (l3.trans l6) rh6 hok;refine thn (T.done (b7 X scope (cn++cl) s₃ H₃ fp (vars++frees)) rfl rfl rfl g.calm i [] s6 σ6 H6 (fun _ _=>False) I6 (stat fr6) st6 (j2 (by omega))) fun r s7 ⟨hr,I7⟩=>?_;subst hr;obtain⟨m7,ns7,_⟩:=I7.loc;have IX:=I3.call' (s':=s7) (ch:=fp) I7.os I7.base I7.hok I7.bare fun b hb=>by
      obtain⟨_,a2,_,a4,a5,a6⟩:=fp3 b hb;exact⟨a4,a2,a5,a6⟩
     exact fin _ _ H6 s7 m7 IX I7.free ns7 (qbQ I3.lt) I3.sz (I3.nofs (qag _)) (fun x c e z=>by
      obtain⟨v,qc⟩:=I3.cell x c e
      exact absurd qc.lt (by rw[z];exact qaO _)) (fun p hp z=>absurd (qao (I3.pin p hp).1) (by rw[z];exact qaO _)) (q6 ρ6 H6 _ (Le.refl _ _) rh6 (.loc (l6.get hrho)))
    ·rw[qai hok] at q6;exact q6.elim
  exact codeAny_compStart_list (loop _ rfl) (T.self X.A 0 _ _ _ (T.keep _ _ _ st3 (fun b _ o e=>keep4 b o e)) (loop _ rfl))
 exact goal3
theorem me_comp(g:Good X N W G k){tg iter elt:Expr}{ifs:List Expr}{scope:Scope}{pos:Pos}{vars frees G':List Str}{fm:List Nat}{mi:Mx MIt}{gt:Mg}{mt:Mx Bool}{me:Mx PV}(C:CompOk X N scope vars frees fm)
  (nd:(vars++frees).Nodup) (hgl:∀x∈G',scope.names.lookup x=some .globalImplicit) (dbg:∀x∈(vars++frees)++G',(x == ("__debug__":Str))=false/\(x == ("__classdict__":Str))=false/\x≠"__name__")
  (hi:MI X tg iter mi)
  (hY:∀Y:Cx,Y.prog=X.prog->Y.w=X.w->Y.K=X.K->Y.mg=X.mg->Y.base=X.base->Y.env.scope=relabel scope X.env->Good Y (vars++frees) vars G' k->MG Y tg gt/\MTs Y ifs mt/\ME Y elt me)
  (hs:∀x,foldedSetIterable iter X.env x=pure x:=by intro _;rfl):ME X (.ListComp elt [⟨tg,iter,ifs,0⟩] scope pos) (bO vars.length fm mi gt mt me):=by
 intro BN s σ H Q I tm;rw[eval_ListComp];refine ly g C nd hgl dbg hi hY hs I tm fun acc D H6 s7 m7 IX hC ns hL hz hfs hcl hp q=>?_;refine⟨m7,ns,fun h'' hsb=>⟨.ref acc,H6,?_,rfl,q⟩⟩;exact IX.turned (it:=D) (t':=s7.toks) (fun b o hb e=>hsb.extBut b o hb e) hC hL (.inr hz) hcl hp
theorem pD(g:Good X N W G k)(i:Nat){y:Str}{py spos:Pos}{tg iter elt:Expr}{ifs:List Expr}{scope:Scope}{pos:Pos}{vars frees G':List Str}{fm:List Nat}{mi:Mx MIt}{gt:Mg}{mt:Mx Bool}{me:Mx PV}(hyi:N[i]?=some y)(hw:W[i]?=some y)
  (hsw:swapsWith (.ListComp elt [⟨tg,iter,ifs,0⟩] scope pos) (some (.Name y py)) spos.line X.env=pure true) (C:CompOk X N scope vars frees fm)
  (nd:(vars++frees).Nodup) (hgl:∀x∈G',scope.names.lookup x=some .globalImplicit) (dbg:∀x∈(vars++frees)++G',(x == ("__debug__":Str))=false/\(x == ("__classdict__":Str))=false/\x≠"__name__")
  (hi:MI X tg iter mi)
  (hY:∀Y:Cx,Y.prog=X.prog->Y.w=X.w->Y.K=X.K->Y.mg=X.mg->Y.base=X.base->Y.env.scope=relabel scope X.env->Good Y (vars++frees) vars G' k->MG Y tg gt/\MTs Y ifs mt/\ME Y elt me)
  (hs:∀x,foldedSetIterable iter X.env x=pure x:=by intro _;rfl):MS X (.Assign [.Name y py] (.ListComp elt [⟨tg,iter,ifs,0⟩] scope pos) spos) (aO i (bO vars.length fm mi gt mt me)):=by
 intro BN s σ H D I tm;obtain⟨ρ,σp,h,rs,rh,q⟩:=tm;rw[exec_Assign_Name_used _ _ _ _ hsw];refine qah (wpAny_standAt (qah ?_));show wpAny _ X.A (do let _ <-comprehension (.ListComp elt [⟨tg,iter,ifs,0⟩] scope pos) scope X.env _ (newList []) false (eval iter X.env) (some (assign (.Name y py) X.env))) _ _ s
 refine qah (wpAny_mono (ly (pos:=pos) g C nd hgl dbg hi hY hs (use:=some (assign (.Name y py) X.env)) (Qv:=fun _ s'=>SP X BN D .next s') (pp:=firstIterPos [⟨tg,iter,ifs,0⟩] pos) (Q:=fun v H'=>D.nx (σ.set i (some v)) H') I
  ⟨ρ,σp,h,rs,rh,bf.ex q fun ρ1 H1 v v' h1 l r z w=>w ρ1 H1 _ (Le.refl _ _) r ((rs.le l).set i z)⟩ fun acc D' H6 s7 m7 IX hC ns hL hz hfs hcl hp q6=>?_) (fun _ s' hq=>qaw (qaw hq)) fun _ _ e=>e)
 ·obtain⟨o,es,ep,ho,hd,hr⟩:=id ns;have IP:Inv X (BN++[(D',o)]) σ H6 s7:=IX.pins_of fun p hp'=>(qav.mp hp').elim (fun z=>IX.pin p (qac _ z)) fun z=>by
   have e:p=(D',o):=by simpa using z
   subst e;exact⟨ho,hC,hL,hfs,fun v z=>by rw[hd] at z;cases z⟩
  have st:=pr (X:=X) (pos:=py) (by rw[g.hN];exact g.nd) (g.x hyi) (g.loc y (aw hyi)) (g.fn y (aw hw)) (BN++[(D',o)]) s7 σ H6 (.ref acc) (.ref acc) (fun σ' H'=>σ'=σ.set i (some (.ref acc))/\H'=H6) IP rfl ⟨rfl,rfl⟩;refine thn st fun _ s8 ⟨σ8,H8,I8,e1,e2⟩=>?_;subst e1;subst e2;have pn:=I8.pin (D',o) (qac _ (qac _ (by simp)));refine⟨m7,⟨o,es,ep,pn.1,hd,hr⟩,fun h'' hsb=>⟨_,_,?_,q6⟩⟩;exact (I8.unpinned).turned (it:=D') (t':=s8.toks) (fun b o hb e=>hsb.extBut b o hb e) hC hL (.inr hz) hcl hp
end
abbrev bmVE:List Value:=[.type "ValueError",.type "Exception",.type "BaseException",.type "object"]
structure ExcK (K:qaa) (mg:MGl) (x:Str) (C:Addr):Prop where
 bd:mg x=some (.ref C)
 ok:PySem.W.excIn K C bmVE "ValueError.__new__"=true
abbrev kz(X:Cx)(x:Str)(C:Addr):Prop:=ExcK X.K X.mg x C
theorem j7{K:qaa}{h:Heap}{C:Addr}{bmB:List Value}{newId:String}(hK:K.In h)(q:PySem.W.excIn K C bmB newId=true) :
  ∃bm N nm q bs hdct sn sub ab col dd k0 k1 k2 k3 k5 mN,h.get? C=some (excClassObj nm q C N bs bm hdct sn sub ab col dd k0 k1 k2 k3 k5 newId)/\h.Ns N mN/\mN "__init__"=none/\OwnTail h bmB bm/\∀base r,PySem.W.mroIn K C base=some r->(Value.ref C::bm).contains base=r:=by
 unfold PySem.W.excIn at q
 split at q
 ·rename_i dd cd sl ho
  split at q
  ·rename_i C' bm k0 k1 k2 k3 n k5 hm hs
   simp only[qbC,beq_iff_eq,qbp] at q;obtain⟨⟨⟨⟨⟨rfl,rfl⟩,hdel⟩,ht⟩,hok⟩,hni⟩:=q;obtain⟨nm,bs,mro,ns,qn,hd,sn,sub,ab,col,del⟩:=cd;dsimp only at hm hdel hok hni;subst hm hdel;have hsl:sl=#[k0,k1,k2,k3,some (.builtin n),k5]:=by
    obtain⟨l⟩:=sl;simp only at hs;rw[hs]
   subst hsl
   exact⟨bm,ns,nm,qn,bs,hd,sn,sub,ab,col,dd,k0,k1,k2,k3,k5,_,hK _ _ ho,.of_isNs (PySem.W.isNs_of_in hK hok),PySem.W.nsMap_none_of_in hK hok hni,PySem.W.tail_of_in hK ht,fun base r e=>by
    unfold PySem.W.mroIn PySem.W.clsIn at e;rw[ho] at e
    simpa using e⟩
  ·cases q
 ·cases q
section
variable {X:Cx} {N W G:List Str} {k:Nat}
noncomputable def gR(x:Str)(m:Mx (List PV)):Mst:=mEx m fun vs σ h=>if vs.length<=sizeLine then .rse ⟨x,[]⟩ σ h else .bad
theorem uj(g:Good X N W G k){x:Str}{j:Nat}{C:Addr}(hj:G[j]?=some x)(EC:kz X x C){e:Expr}{es:List Expr}{m:Mx (List PV)}{np cpos pos:Pos}(ha:MA X (e::es) m)
  (he:starEach (e::es) X.env=(false,eval e X.env)::starEach es X.env:=by rfl) (hpl:(backTo cpos (starEach es X.env)).any (·.1)=false:=by rfl) :
  MS X (.Raise (some (.Call (.Name x np) (e::es) [] cpos)) none pos) (gR x m):=by
 intro BN s σ H D I ⟨ρ,σp,h,rs,rh,q⟩;have d:=g.dbg x (qac _ (aw hj));obtain⟨bm,Nn,nm,qn,bs,hdct,sn,sub,ab,col,dd,k0,k1,k2,k3,k5,mN,hC,hN,hni,T,_⟩:=j7 I.mod.kin EC.ok;refine wpAny_Raise_call_subT (C:=C) (nm:=nm) (q:=qn) (N:=Nn) (bs:=bs) (bm:=bm) (hdct:=hdct) (sn:=sn) (sub:=sub) (ab:=ab) (col:=col) (dd:=dd) (k0:=k0) (k1:=k1) (k2:=k2) (k3:=k3) (k5:=k5)
  PySem.F.excBase_ValueError (mN:=mN) (T.hasType PySem.F.excBase_ValueError.hasBase) (I.ok.hd g.calm) (by rw[he];show (false || (backTo cpos (starEach es X.env)).any (·.1))=false;rw[hpl];rfl) hni (kN I (g.gl x (aw hj)) EC.bd ⟨rfl,?_⟩ d.1)
 have A:=ha cpos BN s σ H (fun vs H1=>∃ρ1 xs h1,Le ρ H ρ1 H1/\RH X.K X.mg ρ1 H1 h1/\RPs X.K ρ1 H1 xs vs/\bf X ρ1 H1 (if xs.length<=sizeLine then .rse ⟨x,[]⟩ σp h1 else .bad) D) I
  ⟨ρ,σp,h,rs,rh,bf.ex q fun ρ1 H1 v v' h1 l r z w=>⟨ρ1,v,h1,l,r,z,w⟩⟩
 rw[he] at A ⊢;refine Calls.evalArgs_plain (wpAny_mono A (fun us s2 ⟨vs,H1,I1,rv,ρ1,xs,h1,l1,rh1,rx,w⟩=>?_) fun _ _ y=>y);by_cases hl:xs.length<=sizeLine
 ·rw[qaf hl] at w;refine⟨rfl,by rw[<-rv.length,<-rx.length];exact hl,I1.bk _ _ hC,hN.keeps I1.bk,T.keeps I1.bk,fun h' ea made=>?_⟩;have I0:Inv X [] σ H1 { ({ s2 with heap:=h'}:Shared) with heap:=s2.heap}:=Inv.unpinned (BN:=[]) (pl:=BN) I1;exact w ea C ρ1 H1 σ { s2 with heap:=h'} s2.heap us rfl EC.bd (Le.refl _ _) rh1 (rs.le l1) I0 made
 ·rw[qai hl] at w;exact w.elim
theorem kc{M:Model}{A:Around}{E:Value->Shared->Prop}{h:Heap}{gn:Array GenState}{d:Drawn}{t:Nat}{os:OsState}{ea C D N1 N2:Addr}{oe:Obj}{nm1 q1 nm2 q2:Str}{bs1 bm1 bs2 bm2:List Value}{hd1 hd2:Bool}{sn1 sn2:List Str}{sub1 sub2:List Value}{ab1 ab2:Bool}{col1 col2:Option Bool}{dd1 dd2:Option Addr}
  {a0 a1 a2 a3 a5 b0 b1 b2 b3 b5:Option Value} {n1 n2:String} {Q:Bool->Shared->Prop} (hC:h.get? C=some (excClassObj nm1 q1 C N1 bs1 bm1 hd1 sn1 sub1 ab1 col1 dd1 a0 a1 a2 a3 a5 n1)) (hD:h.get? D=some (excClassObj nm2 q2 D N2 bs2 bm2 hd2 sn2 sub2 ab2 col2 dd2 b0 b1 b2 b3 b5 n2))
  (he:h.get? ea=some oe) (hcls:oe.cls=.ref C) (hB:bm2.contains (.type "BaseException")=true) (hsub:(Value.ref C::bm1).contains (.ref D)=true) (hq:Q true ⟨h,gn,d,t,os⟩):wpAny M A (excMatches (.ref ea) (.ref D)) Q E ⟨h,gn,d,t,os⟩:=by
 have hcB:(Value.ref D::bm2).contains (.type "BaseException")=true:=by rw[List.contains_cons,hB,Bool.or_true]
 have f:=tc_notTuple;unfold excMatches
 repeat (first | (with_reducible refine wpAny_loadPart_at he ?_;rw[hcls]) | with_reducible refine wpAny_loadPart_at hD ?_ | (with_reducible refine wpAny_isSubtype_exc hD ?_;rw[hcB]) | (with_reducible refine wpAny_isSubtype_exc hC ?_;rw[hsub]) | wp_step)
 exact hq
end
section
variable {X:Cx} {N W G:List Str} {k:Nat} {σ:L2.St} {H:Hp} {s:Shared}
abbrev kL(X:Cx)(BN:List (Addr × Obj))(E:Value->Shared->Prop):Cx:={ X with pn:=X.pn++BN,xe:=E}
theorem ok_pin(ok:X.Ok):(kL X BN E).Ok :=
 ⟨ok.mod,ok.kind,ok.glob,ok.blt,ok.above,ok.inj,ok.has,ok.cab,ok.hd,ok.frames,ok.stk,ok.exf,ok.bs,ok.bsz,ok.noex,ok.exfs,ok.funs,ok.frf⟩
theorem t4(ok:(kL X BN E).Ok):X.Ok :=
 ⟨ok.mod,ok.kind,ok.glob,ok.blt,ok.above,ok.inj,ok.has,ok.cab,ok.hd,ok.frames,ok.stk,ok.exf,ok.bs,ok.bsz,ok.noex,ok.exfs,ok.funs,ok.frf⟩
theorem Inv.toPin(I:Inv X BN σ H s):Inv (kL X BN E) [] σ H s :=
 ⟨ok_pin I.ok,I.os,I.bare,I.base,I.loc,I.cell,I.free,I.freeC,fun p hp=>I.pin p (by simpa using hp),I.hok,I.len⟩
theorem Inv.ofPin(I:Inv (kL X BN E) [] σ H s):Inv X BN σ H s :=
 ⟨t4 I.ok,I.os,I.bare,I.base,I.loc,I.cell,I.free,I.freeC,fun p hp=>I.pin p (by simpa using hp),I.hok,I.len⟩
theorem jX{h h':Heap}{c:Addr}{v:Option Value}(sm:h.UpToSlots h')(q:h.IsCell c v):h'.IsCell c v:=by
 obtain⟨o,e,d⟩:=q;obtain⟨sl,e'⟩:=sm c o e (fun vs z=>by rw[d] at z;cases z);exact⟨_,e',d⟩
theorem Inv.flown(I:Inv X [] σ H s){B h' lim:Heap}(hB:B.StaysIn s.heap)(hB':B.StaysIn h')(sm:s.heap.UpToSlots h')(brs:Bears X lim)(cov:Cov B (frs X.stack) lim)(cvH:∀b o,H b=some o->∃ob,B.get? b=some ob):Inv X [] σ H { s with heap:=h'}:=by
 have kp:∀b o ob,B.get? b=some ob->s.heap.get? b=some o->h'.get? b=some o:=fun b o ob e1 e2=>by
  have:=nZ hB e1 e2
  subst this;exact hB' b ob e1
 have nl:∀b o,X.s₀.heap.get? b=some o->b≠X.env.locals:=fun b o e z=>absurd (qat (qao e) I.ok.above) (by rw[z];exact qaO _);have inB:∀b o,X.s₀.heap.get? b=some o->b∉X.fs->b∉X.ex->∃ob,B.get? b=some ob:=fun b o e hf hx=>by
  obtain⟨o',e'⟩:=brs.old b o e hx;refine cov b o' e' fun hm=>?_;rcases qan.mp (I.stkSub b hm) with z|z
  ·exact nl b o e z
  ·exact hf z
 obtain⟨m,hn,hl⟩:=I.loc;have nfr:∀b o,X.s₀.heap.get? b=some o->b∈X.fs->∀vs,o.data≠.fields vs:=fun b o e hf vs z=>by
  obtain⟨_,oF,eF,dF⟩:=I.ok.funs.mem hf;rw[e] at eF;cases eF;exact dF vs z
 refine⟨I.ok,I.os,I.bare,⟨fun b o e n hf hx=>?_,fun b o e n hf hx=>?_,I.base.free,fun b o e hx=>?_,I.base.tups,I.base.frzs,I.base.tbls⟩,⟨m,sm.ns hn,fun i x v e1 e2 e3=>?_⟩,fun x c e=>?_,I.free,I.freeC,fun p hp=>?_,fun a o e=>?_,I.len⟩
 ·obtain⟨ob,eb⟩:=inB b o e hf hx;exact kp b o ob eb (I.base.keep b o e n hf hx)
 ·obtain⟨sl,e1⟩:=I.base.slot b o e n hf hx;obtain⟨sl',e2⟩:=sm b _ e1 (fun vs z=>nfr b o e hf vs z);exact⟨sl',e2⟩
 ·by_cases hf:b∈X.fs
  ·obtain⟨sl,e1⟩:=I.base.slot b o e (I.ok.frf b hf) hf hx;obtain⟨sl',e2⟩:=sm b _ e1 (fun vs z=>nfr b o e hf vs z);exact⟨_,e2⟩
  ·obtain⟨ob,eb⟩:=inB b o e hf hx;exact⟨ob,hB' b ob eb⟩
 ·obtain⟨u,ru,look⟩:=hl i x v e1 e2 e3;refine⟨u,ru,?_⟩;rcases look with z|⟨z1,c,z2,z3⟩
  ·exact .inl z
  ·exact .inr ⟨z1,c,z2,jX sm z3⟩
 ·obtain⟨v,q⟩:=I.cell x c e;exact⟨v,jX sm q⟩
 ·obtain⟨e,n,ne,nf,d⟩:=I.pin p hp;refine⟨?_,n,ne,nf,d⟩;have hp':p∈X.pn:=by simpa using hp
  obtain⟨o',e'⟩:=brs.pin p hp';obtain⟨ob,eb⟩:=cov p.1 o' e' fun hm=>by
   rcases qan.mp (I.stkSub p.1 hm) with z|z
   ·exact ne z
   ·exact nf z
  exact kp p.1 p.2 ob eb e
 ·refine (I.hok a o e).stay (fun b u hb z=>?_) (fun _ z=>z) fun _ _ z=>z;rcases hb with rfl|hb
  ·obtain⟨ob,eb⟩:=cvH _ _ e;exact kp _ u ob eb z
  ·obtain⟨ob,eb⟩:=cvH _ _ hb;exact kp _ u ob eb z
theorem Inv.track(I:Inv X BN σ H s)(ha:H a=none)(h0:X.s₀.heap.get? a=none)(hL:a≠X.env.locals)(hc:∀x c,X.env.cells.lookup x=some c->c≠a)(hp:∀p∈X.pn++BN,p.1≠a)
  (hφ:ObjOk X.prog X.w (upd H a (.ext φ)) s.heap a (.ext φ)):Inv X BN σ (upd H a (.ext φ)) s:=by
 have ne0:∀b o,X.s₀.heap.get? b=some o->b≠a:=fun b o e z=>by rw[z,h0] at e;cases e
 have t:∀b u,H b=some u->upd H a (.ext φ) b=some u:=fun b u e=>by rw[aH (bh e ha)];exact e
 refine⟨I.ok,I.os,I.bare,⟨I.base.keep,I.base.slot,fun b o e n hx=>by rw[aH (ne0 b o e)];exact I.base.free b o e n hx,I.base.there,fun b xs e=>t b _ (I.base.tups b xs e),fun b o u e=>t b _ (I.base.frzs b o u e),fun b ps e=>?_⟩,
  I.loc,I.cell,by rw[aH (Ne.symm hL)];exact I.free,fun x c e=>by rw[aH (hc x c e)];exact I.freeC x c e,fun p hp'=>?_,fun b u e=>?_,I.len⟩
 ·obtain⟨more,e'⟩:=I.base.tbls b ps e;exact⟨more,t b _ e'⟩
 ·obtain⟨a1,a2,a3⟩:=I.pin p hp';exact⟨a1,by rw[aH (hp p hp')];exact a2,a3⟩
 ·by_cases hb:b=a
  ·subst hb;rw[bz] at e;cases e;exact hφ
  ·rw[aH hb] at e;exact (I.hok b u e).stay (fun c v _ q=>q) (fun c q=>t c _ q) fun c xs q=>t c _ q
theorem ns_inj{h:Heap}{a:Addr}{m m0:Str->Option Value}(x:h.Ns a m)(y:h.Ns a m0):m=m0:=by
 obtain⟨o,es,ep,e,d,_,f⟩:=x;obtain⟨o',es',ep',e',d',_,f'⟩:=y;rw[e] at e';cases e';rw[d] at d';cases d';funext z;rw[<-f z,<-f' z]
theorem Inv.unbound(I:Inv X BN σ H s)(hN:X.N.Nodup)(hi:X.N[i]?=some n)(hm:s.heap.Ns X.env.locals m)(hn':h'.Ns X.env.locals (fun x=>if x=n then v else m x))(hs:Heap.SameBut X.env.locals s.heap h') :
  Inv X BN (σ.set i none) H { s with heap:=h',toks:=t'}:=by
 obtain⟨m0,hn0,hl⟩:=I.loc;have em:m=m0:=ns_inj hm hn0;subst em;have lt:∀b o,X.s₀.heap.get? b=some o->b≠X.env.locals:=fun b o e=>qaJ (qat (qao e) I.ok.above);refine⟨I.ok,I.os,I.bare,⟨fun b o e n hb hx=>?_,fun b o e n hb hx=>?_,I.base.free,fun b o e hx=>?_,I.base.tups,I.base.frzs,I.base.tbls⟩,⟨_,hn',fun j y v' e1 e2 e3=>?_⟩,fun y c e=>?_,I.free,I.freeC,fun p hp=>?_,fun a o e=>?_,by simpa using I.len⟩
 ·exact (hs.2 b (lt b o e)).trans (I.base.keep b o e n hb hx)
 ·obtain⟨sl,e1⟩:=I.base.slot b o e n hb hx;exact⟨sl,(hs.2 b (lt b o e)).trans e1⟩
 ·obtain⟨o',e1⟩:=I.base.there b o e hx;exact⟨o',(hs.2 b (lt b o e)).trans e1⟩
 ·by_cases hj:j=i
  ·subst hj;exfalso;by_cases hlt:j<σ.length
   ·rw[qas hlt] at e2;cases e2
   ·rw[qbf (by simp;omega)] at e2;cases e2
  ·rw[qad (Ne.symm hj)] at e2;obtain⟨u',r',q⟩:=hl j y v' e1 e2 e3;refine⟨u',r',?_⟩;rcases q with ⟨k,e⟩|⟨k,c,e,z⟩
   ·refine .inl ⟨k,?_⟩
    have:y≠n:=fun e=>hj (iT hN e1 (e▸hi))
    simp[this,e]
   ·exact .inr ⟨k,c,e,z.sameBut hs (I.cne y c e)⟩
 ·obtain⟨w',z⟩:=I.cell y c e;exact⟨w',z.sameBut hs (I.cne y c e)⟩
 ·obtain⟨e,n,ne,nf,d⟩:=I.pin p hp;exact⟨(hs.2 p.1 ne).trans e,n,ne,nf,d⟩
 ·have na:a≠X.env.locals:=fun z=>by rw[z,I.free] at e;cases e
  refine (I.hok a o e).stay (fun b u hb z=>(hs.2 b ?_).trans z) (fun _ z=>z) fun _ _ z=>z;rcases hb with rfl|hb
  ·exact na
  ·intro z;rw[z,I.free] at hb;cases hb
noncomputable def nA(cs:List Str)(iy inn:Nat)(mb:Mst):Mst:=fun σ h=>match mb σ h with
 | .exc x σ1 h1=>if x.fs=[]/\x.cls∈cs then .nx (((σ1.set inn (some (.loc h1.length))).set iy (some (.loc h1.length))).set inn none) (h1++[.exc x]) else .bad
 | .rse _ _ _=>.bad
 | o=>o
theorem RS.unset{K:qaa}{ρ:List Addr}{H:Hp}{σp:PSt}{σ:L2.St}(r:RS K ρ H σp σ)(i:Nat):RS K ρ H (σp.set i none) (σ.set i none):=by
 refine⟨by simp[r.1],fun j u e=>?_⟩;by_cases hj:j=i
 ·subst hj;exfalso;by_cases hlt:j<σp.length
  ·rw[qas hlt] at e;cases e
  ·rw[qbf (by simp;omega)] at e;cases e
 ·rw[qad (fun z=>hj z.symm)] at e ⊢;exact r.2 j u e
theorem ms_try(g:Good X N W G k)(dc:DefCx X){c:Str}{j:Nat}{D:Addr}(hj:G[j]?=some c)(ED:kz X c D){cs:List Str}(hcs:∀x∈cs,∃C,kz X x C/\PySem.W.mroIn X.K C (.ref D)=some true)(iy inn:Nat){y n:Str}(hyi:N[iy]?=some y)(hyw:W[iy]?=some y)(hni:N[inn]?=some n)(hnw:W[inn]?=some n)
  (hnl:X.env.scope.names.lookup n=some .local) {body:List Stmt} {mb:Mst} {cp yp np sp hp pos:Pos}
  (hb:∀Y:Cx,Y.prog=X.prog->Y.w=X.w->Y.K=X.K->Y.mg=X.mg->Y.base=X.base->Y.env=X.env->Good Y N W G k->DefCx Y->MSs Y body mb) (hsw:swapsWith (.Name n np) (some (.Name y yp)) sp.line X.env=pure false:=by rfl) :
  MS X (.Try body [.ExceptHandler (some (.Name c cp)) (some n) [.Assign [.Name y yp] (.Name n np) sp] hp] [] [] pos) (nA cs iy inn mb):=by
 intro BN s σ H Dd I ⟨ρ,σp,h,rs,rh,q⟩;refine wpAny_Try_except ?_;have gY:∀E,PassesOwn (model X.prog X.w) X.A X.env E->Good (kL X BN E) N W G k:=fun E po=>⟨g.hN,g.nd,g.loc,g.fn,g.gl,g.dbg,g.calm,g.room,po⟩;have run:=hb (kL X BN _) rfl rfl rfl rfl rfl rfl (gY _ (PassesOwn.looking (M:=model X.prog X.w) (A:=X.A) (env:=X.env) (K:=fun e s₂=>wpAny (model X.prog X.w) X.A (setFlight e none) (fun _ s₃=>wpAny (model X.prog X.w) X.A (handleBy e X.env [.ExceptHandler (some (.Name c cp)) (some n) [.Assign [.Name y yp] (.Name n np) sp] hp]) (SP X BN Dd) X.xe s₃) X.xe s₂) (E₁:=X.xe))) ⟨dc.stk,dc.fr,dc.ex⟩;refine wpAny_mono (run [] s σ H Dd (Inv.toPin I) ⟨ρ,σp,h,rs,rh,?_⟩) (fun f s₁ z=>?_) fun _ _ z=>z
 ·unfold nA at q
  cases em:mb σp h with
  | nx σ1 h1=>rw[em] at q;exact q
  | rt v h1=>rw[em] at q;exact q
  | bk σ1 h1=>rw[em] at q;exact q
  | ct σ1 h1=>rw[em] at q;exact q
  | bad=>rw[em] at q;exact q.elim
  | rse x σ1 h1=>rw[em] at q;exact q.elim
  | exc x σ1 h1 =>
   rw[em] at q;dsimp only at q;by_cases hx:x.fs=[]/\x.cls∈cs
   ·rw[qaf hx] at q;intro ea C ρ' H' σ' s' lim hfs hmg l rh' rs' I' brs fly;obtain⟨C',EC,hsubm⟩:=hcs x.cls hx.2;have eC:C'=C:=by
     have:=EC.bd
     rw[show X.mg x.cls=some (.ref C) from hmg] at this;cases this;rfl
    subst eC;obtain⟨B,t,hfl,hBH,hcov,hea⟩:=fly;have hst:X.stack=X.env::X.outer:=dc.stk;have hfl:Heap.FlyingW B (X.env::X.outer) ea (.ref C') (.ref t) s'.heap:=by rw[<-hst];exact hfl
    have hfrm:X.A.frames=some (X.env::X.outer):=by rw[<-hst];exact I'.ok.frames
    refine wpAny_looks_onW (base:=B) hfrm dc.fr hfl fun h₄ held₄ sm₄=>?_;refine wpAny_landsW held₄ fun h₅ fl₅ sm₅=>?_;have sm45:=sm₄.trans sm₅;have I5:=Inv.flown I' hfl.1 fl₅.1 sm45 brs hcov hBH;have I5x:=Inv.ofPin I5;refine wpAny_handleBy_cons (codeAny_handlers_test (Calls.Name_function_global I5x.ok.kind (g.gl c (aw hj)) (Calls.loadGlobal_global (by rw[I5x.ok.glob];exact I5x.mod.glob.keeps I5x.bk) ED.bd ?_) (g.dbg c (qac _ (aw hj))).1)) (by intro z;cases z);obtain⟨bm1,N1,nm1,q1,bs1,hd1,sn1,sub1,ab1,col1,dd1,a0,a1,a2,a3,a5,mN1,hC1,_,_,_,mro1⟩:=j7 I5x.kIn EC.ok;obtain⟨bm2,N2,nm2,q2,bs2,hd2,sn2,sub2,ab2,col2,dd2,b0,b1,b2,b3,b5,mN2,hD2,_,_,T2,_⟩:=j7 I5x.kIn ED.ok;obtain⟨ob,hob,hobc⟩:=fl₅.there;obtain⟨hp5,g5,d5,t5,os5⟩:=s';refine kc hC1 hD2 hob hobc (T2.hasType PySem.F.excBase_ValueError.hasBase) (mro1 _ _ hsubm) ?_;refine codeAny_handlers_suite_as ?_;refine lands_againW fl₅ fun h₆ fl₆ sm₆=>?_;have I6:=Inv.flown I5 fl₅.1 fl₆.1 sm₆ brs hcov hBH;have I6x:=Inv.ofPin I6;obtain⟨oe,vs,T,oT,ts,he6,⟨hcls6,hv0⟩,hd6,_,_,_,_,_,_⟩:=fl₆.2.2.2;have eaB:B.get? ea=none:=fl₆.2.1;have nfr:ea∉frs X.stack:=fun hm=>by
     obtain⟨_,o,eo,dn⟩:=I6x.stack.mem hm;rw[show h₆.get? ea=some oe from he6] at eo;cases eo;exact dn vs hd6
    have eL:ea≠X.env.locals:=fun z=>nfr (by rw[hst,z];exact qbI.mpr ⟨X.env,qaH,dc.fr⟩);have e0:X.s₀.heap.get? ea=none:=by
     cases z:X.s₀.heap.get? ea with
     | none=>rfl
     | some o =>
      obtain⟨o',e'⟩:=brs.old ea o z (by rw[dc.ex];simp);obtain⟨ob',eb⟩:=hcov ea o' e' nfr;rw[eaB] at eb;cases eb
    have ec:∀z cc,X.env.cells.lookup z=some cc->cc≠ea:=fun z cc e w=>by
     obtain⟨v,o,eo,ed⟩:=I6x.cell z cc e;rw[w,show h₆.get? ea=some oe from he6] at eo;cases eo;rw[hd6] at ed;cases ed
    have ep:∀p∈X.pn++BN,p.1≠ea:=fun p hp' w=>by
     obtain⟨o',e'⟩:=brs.pin p hp';rw[w] at e';obtain⟨ob',eb⟩:=hcov ea o' e' nfr;rw[eaB] at eb;cases eb
    have I7:=Inv.track (φ:=dO ea C') I6x hea e0 eL ec ep ⟨⟨oe,vs,he6,hcls6,hd6⟩,⟨oe,he6⟩,fun h1 h2 ⟨o,ws,z1,z2,z3⟩ kk=>⟨o,ws,kk o z1,z2,z3⟩⟩;obtain⟨rh7,l7⟩:=rh'.new hea (o:=.exc x) (ho:=.ext (dO ea C')) ⟨hx.1,C',hmg,rfl⟩;have rv:RP X.K (ρ'++[ea]) (upd H' ea (.ext (dO ea C'))) (.loc h1.length) (.ref ea):=.loc (by rw[<-rh'.len];simp);have rs7:=RS.le l7 rs';have hNn:X.N.Nodup:=by rw[g.hN];exact g.nd
    refine i4 I7 hNn (g.x hni) (g.loc n (aw hni)) (v:=.ref ea) rfl (fun s8 I8=>?_) (g.fn n (aw hnw));have rs8:=rs7.set inn rv
    let X':Cx:={ X with A:=X.A.mark (some (.ref ea)),calm:=false,xe:=fun _ _=>False}
    have ok':X'.Ok:=⟨I8.ok.mod,I8.ok.kind,I8.ok.glob,I8.ok.blt,I8.ok.above,I8.ok.inj,I8.ok.has,I8.ok.cab,(fun z=>nomatch z),I8.ok.frames,I8.ok.stk,I8.ok.exf,I8.ok.bs,I8.ok.bsz,I8.ok.noex,I8.ok.exfs,I8.ok.funs,I8.ok.frf⟩;have I8':Inv X' BN _ _ s8:=⟨ok',I8.os,I8.bare,I8.base,I8.loc,I8.cell,I8.free,I8.freeC,I8.pin,I8.hok,I8.len⟩;have hlenn:inn<σ'.length:=by rw[I'.len];exact (qab.mp (g.x hni)).1
    have dn:=g.dbg n (qay _ (aw hni));have st:=o3 (sg (X:=X') (i:=iy) (pos:=sp) (pos':=yp) hNn (g.x hyi) (g.loc y (aw hyi)) (rg (X:=X') (i:=inn) (pos:=np) (g.x hni) (.inl hnl) dn.1 dn.2.1) hsw (g.fn y (aw hyw))) BN s8 _ _
     { nx:=fun σ9 H9=>σ9=(σ'.set inn (some (.ref ea))).set iy (some (.ref ea))/\H9=upd H' ea (.ext (dO ea C')),rt:=fun _ _=>False} I8' ⟨.ref ea,by rw[qas hlenn],rfl,rfl⟩
    refine wpAny_mono st (fun fl s9 z9=>?_) fun _ _ z=>z.elim
    cases fl with
    | ret u=>obtain⟨_,_,_,_,_,z⟩:=z9;exact z.elim
    | brk=>obtain⟨_,_,_,z⟩:=z9;exact z.elim
    | cont=>obtain⟨_,_,_,z⟩:=z9;exact z.elim
    | next =>
     obtain⟨σ9,H9,I9',e9,e9'⟩:=z9;subst e9;subst e9';have I9:Inv X BN ((σ'.set inn (some (.ref ea))).set iy (some (.ref ea))) (upd H' ea (.ext (dO ea C'))) s9:=⟨I8.ok,I9'.os,I9'.bare,I9'.base,I9'.loc,I9'.cell,I9'.free,I9'.freeC,I9'.pin,I9'.hok,I9'.len⟩;obtain⟨m9,hn9,_⟩:=I9.loc;refine wpAny_nameGoes_keeps hnl hn9 (by rw[I9.ok.kind];rfl) fun h10 v10 ns10 sb10=>?_;have I10:=Inv.unbound I9 hNn (g.x hni) hn9 (t':=s9.toks+1) ns10 sb10;refine⟨_,_,I10,?_⟩;exact q (ρ'++[ea]) _ _ (l.trans l7) rh7 (RS.unset (rs8.set iy rv) inn)
   ·rw[qai hx] at q;exact q.elim
 ·cases f with
  | next =>
   obtain⟨σ',H',I',z⟩:=z;exact wpAny_execs_nil ⟨σ',H',Inv.ofPin I',z⟩
  | brk=>obtain⟨σ',H',I',z⟩:=z;exact⟨σ',H',Inv.ofPin I',z⟩
  | cont=>obtain⟨σ',H',I',z⟩:=z;exact⟨σ',H',Inv.ofPin I',z⟩
  | ret u=>obtain⟨v,σ',H',I',r,z⟩:=z;exact⟨v,σ',H',Inv.ofPin I',r,z⟩
end
structure ExcQ (K:qaa) (C:Addr):Prop where
 ga:PySem.W.findIn K (.ref C) "__getattribute__"=some (some (.builtin "BaseException.__getattribute__"))
 cl:PySem.W.findIn K (.ref C) "__class__"=some (some (.builtin "object.__class__"))
 gt:PySem.W.findIn K (.ref C) "__getattr__"=some none
 mo:PySem.W.mroIn K C (.type "object")=some true
 mb:PySem.W.mroIn K C (.type "BaseException")=some true
section
variable {prog:Program} {w:World} {A:Around} {E:Value→Shared→Prop} {h:Heap} {g:Array GenState} {d:Drawn} {t:Nat} {os:OsState} {a C:Addr} {o:Obj} {K:qaa}
theorem x_get(hK:K.In h)(q:ExcQ K C)(hx:h.get? a=some o)(hc:o.cls=.ref C)(hq:R (.ok (.ret (.ref C))) ⟨h,g,d,t,os⟩) :
  codeAny (model prog w) A (.call (.builtin "getset_descriptor.__get__") ⟨[.builtin "object.__class__",.ref a,.ref C],[]⟩) R ⟨h,g,d,t,os⟩:=by
 have hT5:(⟨h,g,d,t,os⟩:Shared).TypeIs (.builtin "object.__class__") "getset_descriptor":=PySem.F.typeOf_object_class;have f8:∀{A':Around} {E':Value->Shared->Prop} {Q':Bool->Shared->Prop},Q' true ⟨h,g,d,t,os⟩->wpAny (model prog w) A' (isSubtype (.ref C) (.type (".".intercalate ("object.__class__".cutAt '.').dropLast))) Q' E' ⟨h,g,d,t,os⟩:=fun z=>by
  rw[PySem.F.owner_object_class];exact (PySem.W.looks_mroIn (M:=model prog w) hK q.mo).at z
 refine codeAny_call_builtin PySem.F.slot_gs_get.plain PySem.F.entry_gs_get (PySem.F.slot_gs_get.check _ _ _ _ _ _ _ _ hT5 (PySem.F.args_gs_get _ _ _) ?_)
 repeat (any_goals (first | assumption | (with_reducible refine wpAny_loadPart_at hx ?_;rw[hc]) | with_reducible refine f8 ?_ | wp_step))
 refine⟨Code.quiet_builtin _ (by decide +kernel),codeAny_builtin PySem.F.entry_object_class ?_⟩
 repeat (any_goals (first | assumption | (with_reducible refine wpAny_loadPart_at hx ?_;rw[hc]) | wp_step))
theorem x_entry(hK:K.In h)(q:ExcQ K C)(hx:h.get? a=some o)(hc:o.cls=.ref C)(hq:Q (.done (.ret (.ref C))) ⟨h,g,d,t,os⟩) :
  wpAny (model prog w) A (Builtin.«object.__getattribute__» ⟨[.ref a,.str "__class__" tk],[]⟩) Q E ⟨h,g,d,t,os⟩:=by
 have hT5:(⟨h,g,d,t,os⟩:Shared).TypeIs (.builtin "object.__class__") "getset_descriptor":=PySem.F.typeOf_object_class;have f4:∀{A':Around} {E':Value->Shared->Prop} {Q':Option Value->Shared->Prop},Q' (some (.builtin "object.__class__")) ⟨h,g,d,t,os⟩->wpAny (model prog w) A' (typeLookup (.ref C) "__class__") Q' E' ⟨h,g,d,t,os⟩:=fun z=>(PySem.W.looks_findIn (M:=model prog w) hK q.cl).at z;have f5:=PySem.F.typeOf_object_class;have f6:=PySem.F.slot_gs_get.lookup;have f7:=PySem.F.slot_gs_set.lookup
 repeat (any_goals (first | assumption | (with_reducible refine wpAny_loadPart_at hx ?_;rw[hc]) | with_reducible refine f4 ?_ | wp_step))
 refine x_get hK q hx hc ?_
 repeat (any_goals (first | assumption | wp_step))
theorem x_call(hK:K.In h)(q:ExcQ K C)(hx:h.get? a=some o)(hc:o.cls=.ref C)(hq:R (.ok (.ret (.ref C))) ⟨h,g,d,t,os⟩) :
  codeAny (model prog w) A (.call (.builtin "BaseException.__getattribute__") ⟨[.ref a,.str "__class__" tk],[]⟩) R ⟨h,g,d,t,os⟩:=by
 have hk:builtinKind "BaseException.__getattribute__"=some .slot:=by decide +kernel
 have hsplit:splitId "BaseException.__getattribute__"=some ("BaseException","__getattribute__"):=by decide +kernel
 have ha:=PySem.F.args_bexc_ga (.ref a) (.str "__class__" tk);have f8:∀{A':Around} {E':Value->Shared->Prop} {Q':Bool->Shared->Prop},Q' true ⟨h,g,d,t,os⟩->wpAny (model prog w) A' (isSubtype (.ref C) (.type "BaseException")) Q' E' ⟨h,g,d,t,os⟩:=fun z=>(PySem.W.looks_mroIn (M:=model prog w) hK q.mb).at z;have chk:∀{A':Around} {E':Value->Shared->Prop} {Q':Unit->Shared->Prop},Q' () ⟨h,g,d,t,os⟩->wpAny (model prog w) A' (checkBuiltinCall "BaseException.__getattribute__" ⟨[.ref a,.str "__class__" tk],[]⟩) Q' E' ⟨h,g,d,t,os⟩:=fun z=>by
  simp only[checkBuiltinCall,hk,hsplit];refine qah ?_
  ·unfold isInstance
   repeat (first | (with_reducible refine wpAny_loadPart_at hx ?_;rw[hc]) | with_reducible refine f8 ?_ | wp_step)
   exact z
 exact codeAny_call_builtin PySem.F.excAttr_ValueError.ga.plain PySem.F.entry_bexc_ga (chk (x_entry hK q hx hc hq))
theorem x_by(hK:K.In h)(q:ExcQ K C)(hx:h.get? a=some o)(hc:o.cls=.ref C)(hq:Q (.ref C) ⟨h,g,d,t,os⟩):wpAny (model prog w) A (getAttrBy (.ref a) (.str "__class__" tk) false) Q E ⟨h,g,d,t,os⟩:=by
 have f3:=PySem.F.excAttr_ValueError.ga.bind (.ref a);have hx2:(Value.builtin "BaseException.__getattribute__" == Value.builtin "object.__getattribute__")=false:=by decide +kernel
 have hx1:(onTheHeap (Value.ref C) && Value.builtin "BaseException.__getattribute__" == Value.builtin "object.__getattribute__")=false:=by rw[hx2];rfl
 have f1:∀{A':Around} {E':Value->Shared->Prop} {Q':Option Value->Shared->Prop},Q' (some (.builtin "BaseException.__getattribute__")) ⟨h,g,d,t,os⟩->wpAny (model prog w) A' (typeLookup (.ref C) "__getattribute__") Q' E' ⟨h,g,d,t,os⟩:=fun z=>(PySem.W.looks_findIn (M:=model prog w) hK q.ga).at z;have f2:∀{A':Around} {E':Value->Shared->Prop} {Q':Option Value->Shared->Prop},Q' none ⟨h,g,d,t,os⟩->wpAny (model prog w) A' (typeLookup (.ref C) "__getattr__") Q' E' ⟨h,g,d,t,os⟩:=fun z=>(PySem.W.looks_findIn (M:=model prog w) hK q.gt).at z
 repeat (any_goals (first | assumption | (with_reducible refine wpAny_loadPart_at hx ?_;rw[hc]) | with_reducible refine f1 ?_ | with_reducible refine f2 ?_ | wp_step))
 refine x_call hK q hx hc ?_
 repeat (any_goals (first | assumption | wp_step))
theorem x_attr(hK:K.In h)(q:ExcQ K C)(hx:h.get? a=some o)(hc:o.cls=.ref C)(hq:Q (some (.ref C)) ⟨h,g,d,t+1,os⟩):wpAny (model prog w) A (getAttr? (.ref a) "__class__") Q E ⟨h,g,d,t,os⟩:=by
 unfold getAttr? getAttrBy?
 repeat (any_goals (first | assumption | with_reducible apply x_by hK q hx hc | wp_step))
end
theorem om{K:qaa}{a C:Addr}(q:ExcQ K C)(hc:∃cd,PySem.W.clsIn K C=some cd):PySem.W.KitX K (.ref a) (.ref C) (dO a C) where
 ty:=fun M h _ ⟨o,vs,e,c,_⟩=>c▸(PySem.W.Looks.ld e).andThen .now
 it:=fun _ _ X _=>by
  obtain⟨cdD,hcD⟩:=hc;unfold PySem.W.clsIn at hcD
  split at hcD
  ·rename_i c' d' cd' sl' ho
   intro A' Q' E' s' k q;unfold isType loadHead;exact qah (wpAny_loadPart (k _ _ (X _ _ ho)) (qaw q))
  ·cases hcD
 ne:=fun h tp dd its n sl X htp=>by
  obtain⟨cdD,hcD⟩:=hc;refine Bool.eq_false_iff.mpr fun z=>?_;have e:C=tp:=Value.ref.inj (beq_iff_eq.mp z);subst e;unfold PySem.W.clsIn at hcD
  split at hcD
  ·rename_i c' d' cd' sl' ho
   have z:=(X _ _ ho).symm.trans htp;cases z
  ·cases hcD
 ca:=fun {prog w A E Q s} X ⟨o,vs,e,c,_⟩ k=>by
  obtain⟨hh,gg,dd,tt,oo⟩:=s;exact x_attr X q e c k
def be(cs sup:List Str)(x:PV)(h:MH):Out PV:=match x with
 | .loc n=>(match h[n]? with
  | some (.exc e)=>if cs.contains e.cls=true then .ok (.bl (sup.contains e.cls)) h else .bad
  | some _=>.ok (.bl false) h
  | none=>.bad)
 | _=>.ok (.bl false) h
structure IsiC (K:qaa) (mg:MGl) (T:Value) (cs sup:List Str):Prop where
 ty:∀t∈["NoneType","bool","int","str","tuple","list","dict"],PySem.W.kitOne K (.type t) T=some false
 ex:∀x∈cs,∃C,mg x=some (.ref C)/\ExcQ K C/\(∃cd,PySem.W.clsIn K C=some cd)/\PySem.W.kitOne K (.ref C) T=some (sup.contains x)
section
variable {X:Cx} {N W G:List Str} {k:Nat}
theorem pf(IC:IsiC X.K X.mg T cs sup)(hv:∀u,aK v u->u=T):bK X (.builtin "isinstance") (fun xs H Q=>∃x',xs=[x',v]/\uJ X (be cs sup) x' H Q):=by
 intro BN s σ H xs us Q I r ⟨x',e,ρ,h,x,rh,rx,q⟩;subst e
 cases r with
 | cons r1 t1=>cases t1 with
  | cons r2 t2 =>
   cases t2;obtain rfl:=hv _ r2;have plain:∀t,tyP h x=some t->be cs sup x h=.ok (.bl false) h->wpAny (model X.prog X.w) X.A (call (.builtin "isinstance") [_,_]) (EP X BN σ Q) X.xe s:=fun t et ef=>by
    rw[ef] at q;obtain⟨ht,hne,Hq,Z,hz⟩:=ko I rh rx r1 et;exact PySem.W.kia_one Z I.kIn hz (IC.ty t ht) hne fun tk=>⟨.bl _,H,I.tok _,rfl,q ρ H _ (Le.refl _ _) rh (.bl _)⟩
   cases x with
   | non=>exact plain _ rfl rfl
   | bl b=>exact plain _ rfl rfl
   | int i=>exact plain _ rfl rfl
   | str i=>exact plain _ rfl rfl
   | tup i=>exact plain _ rfl rfl
   | frl i=>exact plain _ rfl rfl
   | loc n =>
    cases en:h[n]? with
    | none=>simp only[be,en] at q;exact q.elim
    | some o =>
     cases o with
     | lst xs=>exact plain "list" (by simp[tyP,en]) (by simp[be,en])
     | dic xs=>exact plain "dict" (by simp[tyP,en]) (by simp[be,en])
     | exc ex =>
      simp only[be,en] at q;by_cases hc:cs.contains ex.cls=true
      ·rw[qaf hc] at q;obtain⟨C,hm,EQ,hcd,hk⟩:=IC.ex ex.cls (by simpa using hc)
       cases rx with
       | @loc n a e =>
        cases r1;obtain⟨o',eo',ro⟩:=rh.obj e;rw[en] at eo';cases eo';obtain⟨_,C',hm',hH⟩:=ro;rw[hm] at hm';cases hm';obtain⟨hz,_,_⟩:=(show ObjOk X.prog X.w H s.heap a (.ext (dO a C)) from I.hok a _ hH);exact PySem.W.kia_one (om EQ hcd) I.kIn hz hk (fun z=>nomatch z) fun tk=>⟨.bl _,H,I.tok _,rfl,q ρ H _ (Le.refl _ _) rh (.bl _)⟩
      ·rw[qai hc] at q;exact q.elim
theorem me_isiC(g:Good X N W G k){a:Expr}{m:Mx PV}{c:Str}{D:Addr}{cs sup:List Str}{i j:Nat}{p q pos:Pos}(hi:G[i]?=some "isinstance")(hm:X.mg "isinstance"=none)(hj:G[j]?=some c)(hc:X.mg c=some (.ref D))(IC:IsiC X.K X.mg (.ref D) cs sup)(ha:ME X a m)
  (he:starEach [a,.Name c q] X.env=(false,eval a X.env)::starEach [.Name c q] X.env:=by rfl) (he2:starEach [.Name c q] X.env=[(false,eval (.Name c q) X.env)]:=by rfl) (hpl:(backTo pos (starEach [.Name c q] X.env)).any (·.1)=false:=by rfl) :
  ME X (.Call (.Name "isinstance" p) [a,.Name c q] [] pos) (mUn (be cs sup) m):=by
 have d1:=g.dbg _ (qac _ (aw hi));have d:=g.dbg c (qac _ (aw hj));refine PE.imp (eG (pf IC (v:=.ref D) fun u r=>(show u=Value.ref D from r)) (g.gl _ (aw hi)) hm PyProof.Rows.Boot.«isinstance» (bU ha (bU (pi (v:=.ref D) (u:=.ref D) (g.gl c (aw hj)) hc rfl d.1) eE he2) he) d1.2.2 d1.1 he hpl) fun σ H Q ⟨ρ,σp,h,rs,rh,q⟩=>?_;exact⟨ρ,σp,h,rs,rh,Ful.bind q fun ρ1 H1 x x' h1 _ l1 rh1 rx q1=>⟨x',rfl,ρ1,h1,x,rh1,rx,q1.zero⟩⟩
theorem me_isiB(g:Good X N W G k){a:Expr}{m:Mx PV}{c:Str}{T:String}{cs sup:List Str}{i j:Nat}{p q pos:Pos}(hi:G[i]?=some "isinstance")(hm:X.mg "isinstance"=none)(hj:G[j]?=some c)(hc:X.mg c=none)(hv:bootBuiltins c=some (.type T))(IC:IsiC X.K X.mg (.type T) cs sup)(ha:ME X a m)
  (he:starEach [a,.Name c q] X.env=(false,eval a X.env)::starEach [.Name c q] X.env:=by rfl) (he2:starEach [.Name c q] X.env=[(false,eval (.Name c q) X.env)]:=by rfl) (hpl:(backTo pos (starEach [.Name c q] X.env)).any (·.1)=false:=by rfl) :
  ME X (.Call (.Name "isinstance" p) [a,.Name c q] [] pos) (mUn (be cs sup) m):=by
 have d1:=g.dbg _ (qac _ (aw hi));have d:=g.dbg c (qac _ (aw hj));refine PE.imp (eG (pf IC (v:=.ty T) fun u r=>(show u=Value.type T from r)) (g.gl _ (aw hi)) hm PyProof.Rows.Boot.«isinstance» (bU ha (bU (pP (v:=.ty T) (u:=.type T) (g.gl c (aw hj)) hc hv rfl d.2.2 d.1) eE he2) he) d1.2.2 d1.1 he hpl) fun σ H Q ⟨ρ,σp,h,rs,rh,q⟩=>?_;exact⟨ρ,σp,h,rs,rh,Ful.bind q fun ρ1 H1 x x' h1 _ l1 rh1 rx q1=>⟨x',rfl,ρ1,h1,x,rh1,rx,q1.zero⟩⟩
end
theorem iI(hf:∀v d,f v=some d->d.depth<=n/\d.hasDict=false):∀{xs:List PV} {ds:List PyData},bB f xs=some ds->PyData.depthAll ds<=n/\PyData.hasDictAll ds=false
 | [],ds,e=>by cases e;simp[PyData.depthAll,PyData.hasDictAll]
 | x::r,ds,e=>by
  simp only[bB] at e
  split at e
  ·rename_i d ds' e1 e2
   cases e;obtain⟨a1,a2⟩:=hf _ _ e1;obtain⟨b1,b2⟩:=iI hf e2;simp only[PyData.depthAll,PyData.hasDictAll,a2,b2];exact⟨by omega,rfl⟩
  ·cases e
theorem ni:∀(n:Nat) (v:PV) (d:PyData),rd n h v=some d->d.depth<=n/\d.hasDict=false
 | 0,v,d,e=>by
  cases v <;> simp only[rd] at e <;> cases e <;> simp[PyData.depth,PyData.hasDict]
 | n+1,v,d,e=>by
  have key:∀xs,(∀ds,bB (rd n h) xs=some ds->PyData.depthAll ds<=n/\PyData.hasDictAll ds=false):=fun xs ds=>iI (ni n)
  cases v with
  | non=>simp only[rd] at e;cases e;simp[PyData.depth,PyData.hasDict]
  | bl b=>simp only[rd] at e;cases e;simp[PyData.depth,PyData.hasDict]
  | int b=>simp only[rd] at e;cases e;simp[PyData.depth,PyData.hasDict]
  | str b=>simp only[rd] at e;cases e;simp[PyData.depth,PyData.hasDict]
  | tup xs =>
   simp only[rd,qap] at e;obtain⟨ds,e1,rfl⟩:=e;obtain⟨a,b⟩:=key xs ds e1;exact⟨by simp only[PyData.depth];omega,by simp only[PyData.hasDict,b]⟩
  | frl xs =>
   simp only[rd,qap] at e;obtain⟨ds,e1,rfl⟩:=e;obtain⟨a,b⟩:=key xs ds e1;exact⟨by simp only[PyData.depth];omega,by simp only[PyData.hasDict,b]⟩
  | loc m =>
   simp only[rd] at e
   split at e
   ·rename_i xs _
    simp only[qap] at e;obtain⟨ds,e1,rfl⟩:=e;obtain⟨a,b⟩:=key xs ds e1;exact⟨by simp only[PyData.depth];omega,by simp only[PyData.hasDict,b]⟩
   ·cases e
section
variable {X:Cx} {N W G:List Str} {k:Nat}
end
theorem b8{K:qaa}{D:Addr}(h:PySem.W.kitOne K (.type "NoneType") (.ref D)=some false):∀t∈["NoneType","bool","int","str","tuple","list","dict"],PySem.W.kitOne K (.type t) (.ref D)=some false:=by
 have hb:((PySem.W.clsIn K D).isSome && PySem.W.typeIn K (.ref D) == some (.type "type"))=true:=by
  cases z:((PySem.W.clsIn K D).isSome && PySem.W.typeIn K (.ref D) == some (.type "type")) with
  | true=>rfl
  | false =>
   have e:PySem.W.kitOne K (.type "NoneType") (.ref D)=PySem.W.kitCls K (.type "NoneType") (.ref D):=rfl;rw[e] at h;unfold PySem.W.kitCls at h;dsimp only at h;rw[z] at h;cases h
 have key:∀t,PySem.W.kitOne K (.type t) (.ref D)=(if ((PySem.W.clsIn K D).isSome && PySem.W.typeIn K (.ref D) == some (.type "type"))=true then PySem.W.subIn K (.type t) (.ref D) else none):=fun t=>rfl;intro t ht;rw[key,qaf hb];simp only[qan,qbi,or_false] at ht;rcases ht with rfl|rfl|rfl|rfl|rfl|rfl|rfl <;> rfl
theorem ty_VE:∀(K:qaa),∀t∈["NoneType","bool","int","str","tuple","list","dict"],PySem.W.kitOne K (.type t) (.type "ValueError")=some false:=by
 intro K t ht;simp only[qan,qbi,or_false] at ht;rcases ht with rfl|rfl|rfl|rfl|rfl|rfl|rfl <;> rfl
theorem qD{K:qaa}{C:Addr}{b:Value}{r:Bool}(h:PySem.W.mroIn K C b=some r):∃cd,PySem.W.clsIn K C=some cd:=by
 unfold PySem.W.mroIn at h
 cases z:PySem.W.clsIn K C with
 | none=>rw[z] at h;cases h
 | some cd=>exact⟨cd,rfl⟩
theorem bH{K:qaa}{mg:MGl}{T:Value}{cs sup:List Str}(ty:∀t∈["NoneType","bool","int","str","tuple","list","dict"],PySem.W.kitOne K (.type t) T=some false)
  (ex:∀x∈cs,∃C,mg x=some (.ref C)/\ExcQ K C/\PySem.W.kitOne K (.ref C) T=some (sup.contains x)):IsiC K mg T cs sup :=
 ⟨ty,fun x hx=>let ⟨C,a,b,c⟩:=ex x hx;⟨C,a,b,qD b.mo,c⟩⟩
theorem bD{p:Str->Prop}:∀x∈([]:List Str),p x:=fun _ h=>nomatch h
theorem bi{p:Str->Prop}{a:Str}{l:List Str}(h:p a)(t:∀x∈l,p x):∀x∈a::l,p x:=fun x hx=>by
 rcases qan.mp hx with rfl|z
 ·exact h
 ·exact t x z
section
variable {X:Cx} {N W G:List Str} {k:Nat}
theorem rF(g:Good X N W G k){x:Str}{j:Nat}(hj:G[j]?=some x)(EC:∃C,kz X x C){e:Expr}{es:List Expr}{m:Mx (List PV)}{np cpos pos:Pos}(ha:MA X (e::es) m)
  (he:starEach (e::es) X.env=(false,eval e X.env)::starEach es X.env:=by rfl) (hpl:(backTo cpos (starEach es X.env)).any (·.1)=false:=by rfl) :
  MS X (.Raise (some (.Call (.Name x np) (e::es) [] cpos)) none pos) (gR x m):=let ⟨_,h⟩:=EC;uj g hj h ha he hpl
theorem ms_tryE(g:Good X N W G k)(dc:DefCx X){c:Str}{j:Nat}(hj:G[j]?=some c){cs:List Str}(ED:∃D,kz X c D/\∀x∈cs,∃C,kz X x C/\PySem.W.mroIn X.K C (.ref D)=some true)(iy inn:Nat){y n:Str}(hyi:N[iy]?=some y)(hyw:W[iy]?=some y)(hni:N[inn]?=some n)(hnw:W[inn]?=some n)
  (hnl:X.env.scope.names.lookup n=some .local) {body:List Stmt} {mb:Mst} {cp yp np sp hp pos:Pos}
  (hb:∀Y:Cx,Y.prog=X.prog->Y.w=X.w->Y.K=X.K->Y.mg=X.mg->Y.base=X.base->Y.env=X.env->Good Y N W G k->DefCx Y->MSs Y body mb) (hsw:swapsWith (.Name n np) (some (.Name y yp)) sp.line X.env=pure false:=by rfl) :
  MS X (.Try body [.ExceptHandler (some (.Name c cp)) (some n) [.Assign [.Name y yp] (.Name n np) sp] hp] [] [] pos) (nA cs iy inn mb):=let ⟨_,h,h'⟩:=ED;ms_try g dc hj h h' iy inn hyi hyw hni hnw hnl hb hsw
theorem ir(g:Good X N W G k){a:Expr}{m:Mx PV}{c:Str}{cs sup:List Str}{i j:Nat}{p q pos:Pos}(hi:G[i]?=some "isinstance")(hm:X.mg "isinstance"=none)(hj:G[j]?=some c)(IC:∃D,X.mg c=some (.ref D)/\IsiC X.K X.mg (.ref D) cs sup)(ha:ME X a m)
  (he:starEach [a,.Name c q] X.env=(false,eval a X.env)::starEach [.Name c q] X.env:=by rfl) (he2:starEach [.Name c q] X.env=[(false,eval (.Name c q) X.env)]:=by rfl) (hpl:(backTo pos (starEach [.Name c q] X.env)).any (·.1)=false:=by rfl) :
  ME X (.Call (.Name "isinstance" p) [a,.Name c q] [] pos) (mUn (be cs sup) m):=let ⟨_,h,h'⟩:=IC;me_isiC g hi hm hj h h' ha he he2 hpl
theorem Cal.at(e1:Y.prog=X.prog)(e2:Y.w=X.w)(e3:Y.K=X.K)(e4:Y.mg=X.mg)(e5:Y.base=X.base)(c:Cal X x ps F i):Cal Y x ps F i:=c.to e1 e2 e3 e4 e5
end
end MM
namespace MM
open PySem PySem.Spec PyProof.Rows L2
theorem compOk(hsc:X.env.scope=sc)(h1:scope.kind=.function)(h2:∀y∈scope.names,y.2=.cell->scope.names.lookup y.1=some .cell)(h3:∀y∈scope.names,y.2=.local->scope.names.lookup y.1=some .local)(h4:∀x∈vars,scope.names.lookup x=some .local\/scope.names.lookup x=some .cell)
  (h5:∀x∈frees,scope.names.lookup x=some .free) (h6:∀y∈scope.names,y.2=.free->y.1∈frees) (h7:fm.map (fun i=>N[i]?)=frees.map some) (h8:∀x∈frees,sc.names.lookup x=some .cell):CompOk X N scope vars frees fm :=
 ⟨h1,h2,h3,h4,h5,h6,h7,fun x hx=>by rw[<-hsc] at h8;exact h8 x hx⟩
end MM
namespace MM
open PySem PySem.Spec PyProof.Rows L2
noncomputable local instance (priority:=1) cdec16 (p:Prop):Decidable p:=Classical.propDecidable p
section
variable {σ:PSt} {h:MH}
@[simp] theorem mRaise_ap:gR x m σ h=(m σ h).go σ fun vs σ h=>if vs.length<=sizeLine then .rse ⟨x,[]⟩ σ h else .bad:=rfl
@[simp] theorem mComp_ap{nv:Nat}{fm:List Nat}{mi:Mx MIt}{gt:Mg}{mt:Mx Bool}{me:Mx PV}:bO nv fm mi gt mt me σ h =
 (mi σ h).bind fun it h1=>(cGo it h1.length gt mt me it.xs (cSt nv fm σ) (h1++[.lst []])).bind fun _ h3=>.ok (.loc h1.length) h3:=rfl
theorem app_0{o:MO}{g:MH}:(h++o::g)[h.length]?=some o:=by simp
end
end MM
namespace MM
open PySem PySem.Spec PyProof.Rows L2
end MM
namespace MM
open PySem PySem.Spec PyProof.Rows L2
noncomputable local instance (priority:=1) cdec18 (p:Prop):Decidable p:=Classical.propDecidable p
noncomputable def mMt(f:Nat->List PV->MH->Out PV)(m:Mx PV)(ma:Mx (List PV)):Mx PV:=fun σ h=>(m σ h).bind fun o h1=>match o with
 | .loc n=>(match h1[n]? with
  | some (.lst _)=>(ma σ h1).bind fun vs h2=>(f n vs h2).ne
  | _=>.bad)
 | _=>.bad
def fy(n:Nat)(vs:List PV)(h:MH):Out PV:=match vs,h[n]? with
 | [v],some (.lst xs)=>if xs.length<sizeLine then .ok .non (h.set n (.lst (xs++[v]))) else .bad
 | _,_=>.bad
section
variable {X:Cx} {N W G:List Str} {k:Nat}
def mtJ(X:Cx)(f:Nat->List PV->MH->Out PV):V->List V->Hp->VK->Prop:=fun x vs H Q=>∃ρ h n a ps,x=.ref a/\ρ[n]?=some a/\RH X.K X.mg ρ H h/\RPs X.K ρ H ps vs/\fj X (RV' X) ρ H (f n ps h) Q
theorem sO:MtR X "list.append" (mtJ X fy):=by
 intro BN s σ H x vs v us Q I rx rv ⟨ρ,h,n,a,ps,e,en,rh,rp,q⟩;subst e;obtain⟨o,eo,ro⟩:=rh.obj en;unfold fy at q
 cases rp with
 | nil=>rw[eo] at q;exact q.elim
 | cons r1 t1 =>
  cases t1 with
  | cons _ _=>rw[eo] at q;exact q.elim
  | nil =>
   rw[eo] at q
   cases o with
   | lst xs =>
    dsimp only at q;by_cases hl:xs.length<sizeLine
    ·rw[qaf hl] at q;obtain⟨ys,ey,ry⟩:=ro;obtain⟨rh',l'⟩:=rh.put en (o:=.lst (xs++[_])) (ho:=.lst (ys++[_])) ⟨_,rfl,ry.append (.cons r1 .nil)⟩;exact kU BN s σ H _ _ v us Q I rx rv ⟨a,ys,_,rfl,rfl,ey,by rw[<-ry.length];exact hl,q ρ _ .non l' rh' .non⟩
    ·rw[qai hl] at q;exact q.elim
   | _=>exact q.elim
variable {o e:Expr} {es:List Expr} {name:Str} {apos cpos:Pos} {id:String} {f:Nat→List PV→MH→Out PV} {m:Mx PV} {ma:Mx (List PV)}
theorem tM_mt{ta:TA}(hna:∀σ H Q,tM X (RVs' X) ma σ H Q->ta σ H Q){σ:L2.St}{H:Hp}{Q:VK}(tm:tM X (RV' X) (mMt f m ma) σ H Q):tM X (RV' X) m σ H (fun x H1=>tyV X.K "list" x H1/\ta σ H1 fun xs H2=>mtJ X f x xs H2 Q):=by
 obtain⟨ρ,σp,h,rs,rh,q⟩:=tm;refine⟨ρ,σp,h,rs,rh,?_⟩;unfold mMt at q;refine Ful.bind q fun ρ1 H1 x x' h1 _ l1 rh1 rx q1=>?_
 cases rx with
 | @loc n a en =>
  obtain⟨ob,eo,ro⟩:=rh1.obj en;dsimp only at q1;rw[eo] at q1
  cases ob with
  | lst xs =>
   obtain⟨ys,ey,ry⟩:=ro;refine⟨.inl ⟨rfl,ys,SqL.of ey⟩,hna σ H1 _ ⟨ρ1,σp,h1,rs.le l1,rh1,?_⟩⟩;exact Ful.bind q1 fun ρ2 H2 vs vs' h2 _ l2 rh2 rvs q2=>⟨ρ2,h2,n,a,vs,rfl,l2.get en,rh2,rvs,q2.zero⟩
  | _=>exact q1.elim
 | _=>exact q1.elim
theorem qe(slot:Slot "list" name id)(hty:typeOf (.builtin id)=pure (.type "method_descriptor"))(hm:MtR X id (mtJ X f))(ho:ME X o m)(ha:MA X (e::es) ma)
  (hbase:attributeBase o name X.env (eval o X.env)=eval o X.env:=by rfl)
  (hfew:((backTo cpos (starEach (e::es) X.env)).all (fun x=>!x.1) && (backToKw cpos (keywordEach [] X.env)).all (fun x=>x.1.isSome)
   && decide ((e::es).length+([]:List Keyword).length+(if ([]:List Keyword).isEmpty then 0 else 1)<30))=true:=by rfl)
  (hline:(apos.endLine == cpos.line)=true:=by rfl) (hs:starEach (e::es) X.env=(false,eval e X.env)::starEach es X.env:=by rfl) (hplain:(backTo cpos (starEach es X.env)).any (·.1)=false:=by rfl) :
  ME X (.Call (.Attribute o name apos) (e::es) [] cpos) (mMt f m ma) :=
 PE.imp (pe_bm PySem.F.plainAttrs_list slot hty hm ho ha hbase hfew hline hs hplain) fun σ H Q q=>tM_mt (fun _ _ _ z=>z) q
@[simp] theorem mMt_ap:mMt f m ma σ h=(m σ h).bind fun o h1=>match o with
 | .loc n=>(match h1[n]? with
  | some (.lst _)=>(ma σ h1).bind fun vs h2=>(f n vs h2).ne
  | _=>.bad)
 | _=>.bad:=rfl
end
end MM
namespace MM
open PySem PySem.Spec PyProof.Rows L2
end MM
namespace MM
open PySem PySem.Spec PyProof.Rows L2
noncomputable local instance (priority:=1) cdec20 (p:Prop):Decidable p:=Classical.propDecidable p
def bL(h:MH):PV->Option (List PV)
 | .tup xs=>some xs
 | .frl xs=>some xs
 | .loc n=>(match h[n]? with
  | some (.lst xs)=>some xs
  | _=>none)
 | _=>none
section
variable {X:Cx} {N W G:List Str} {k:Nat}
theorem iz(rh:RH X.K X.mg ρ H h)(rx:RP X.K ρ H x x')(e:bL h x=some xs):∃a ys,x'=.ref a/\(SqL X.K H a ys\/SqT X.K H a ys)/\RPs X.K ρ H xs ys:=by
 cases rx with
 | tup s r=>cases e;exact⟨_,_,rfl,.inr s,r⟩
 | frl s r=>cases e;exact⟨_,_,rfl,.inl s.sq,r⟩
 | @loc n a en =>
  obtain⟨o,eo,ro⟩:=rh.obj en;simp only[bL,eo] at e
  cases o with
  | lst ys =>
   cases e;obtain⟨zs,ez,rz⟩:=ro;exact⟨a,zs,rfl,.inl (SqL.of ez),rz⟩
  | _=>cases e
 | _=>cases e
def gL(f g:PV->PV->MH->Out PV)(a b c:Mx PV):Mx PV:=fun σ h=>(a σ h).bind fun x h1=>(b σ h1).bind fun y h2=>(f x y h2).ne.bind fun z h3=>match z with
 | .bl t=>if t=true then (c σ h3).bind fun w h4=>(g y w h4).ne else .ok (.bl false) h3
 | _=>.bad
variable {a b c:Expr} {ma mb mc:Mx PV} {f g':PV→PV→MH→Out PV} {op op':CmpOp} {pos:Pos}
theorem uo{σ:L2.St}{H:Hp}{Q:VK}(q:tM X (RV' X) (gL f g' ma mb mc) σ H Q):sF (rJ X f) (rJ X g') (tM X (RV' X) ma) (tM X (RV' X) mb) (tM X (RV' X) mc) σ H Q:=by
 obtain⟨ρ,σp,h,rs,rh,q⟩:=q;refine⟨ρ,σp,h,rs,rh,Ful.bind q fun ρ1 H1 x x' h1 _ l1 rh1 rx q1=>?_⟩;refine⟨ρ1,σp,h1,rs.le l1,rh1,Ful.bind q1 fun ρ2 H2 y y' h2 _ l2 rh2 ry q2=>?_⟩;refine⟨ρ2,h2,x,y,rh2,rx.le l2,ry,?_⟩;have key:Ful X (RV' X) σp ρ2 H2 (f x y h2).ne (fun z H3=>∃k,z=.bl k/\(if k=true then tM X (RV' X) mc σ H3 fun w' H4=>rJ X g' y' w' H4 Q else Q (.bl false) H3)):=Ful.bind q2 fun ρ3 H3 z z' h3 _ l3 rh3 rz q3=>by
  cases rz with
  | bl t =>
   refine⟨t,rfl,?_⟩;dsimp only at q3
   cases t with
   | true =>
    rw[qaf rfl] at q3 ⊢;exact⟨ρ3,σp,h3,rs.le (l1.trans (l2.trans l3)),rh3,Ful.bind q3 fun ρ4 H4 w w' h4 _ l4 rh4 rw' q4=>⟨ρ4,h4,y,w,rh4,(ry.le l3).le l4,rw',q4.zero⟩⟩
   | false =>
    rw[qai qaI] at q3 ⊢;exact q3 ρ3 H3 _ (Le.refl _ _) rh3 (.bl _)
  | _=>exact q3.elim
 exact key.zero
theorem tK(ho:OpJ X (compareOp op) f)(ho':OpJ X (compareOp op') g')(ha:ME X a ma)(hb:ME X b mb)(hc:ME X c mc)(hm:lastMarks [op,op'] [b,c]=false:=by with_unfolding_all rfl):ME X (.Compare a [op,op'] [b,c] pos) (gL f g' ma mb mc) :=
 PE.imp (uB ho ho' ha hb hc hm) fun _ _ _ q=>uo q
@[simp] theorem mChain_ap:gL f g' ma mb mc σ h=(ma σ h).bind fun x h1=>(mb σ h1).bind fun y h2=>(f x y h2).ne.bind fun z h3=>match z with
 | .bl t=>if t=true then (mc σ h3).bind fun w h4=>(g' y w h4).ne else .ok (.bl false) h3
 | _=>.bad:=rfl
noncomputable def kh(neg:Bool)(x y:PV)(h:MH):Out PV:=match bL h y with
 | some ys=>(match rd 60 h x,bB (rd 60 h) ys with
  | some d,some ds=>if d.canLay0=true/\PyData.canLayAll0 ds=true then .ok (.bl (if neg then !ds.any (fun e=>PyData.eqv e d) else ds.any (fun e=>PyData.eqv e d))) h else .bad
  | _,_=>.bad)
 | none=>.bad
theorem js:∀{ds:List PyData},PyData.canLayAll0 ds=true->∀d∈ds,d.canLay0=true
 | [],_,d,hd=>nomatch hd
 | e::ds,h,d,hd=>by
  simp only[PyData.canLayAll0,qbC] at h;rcases qan.mp hd with rfl|hd
  ·exact h.1
  ·exact js h.2 d hd
theorem kZ(hf:∀u d as,Reads hp u d as->fq u=PyData.eqv d dx):∀{us:List Value} {ds:List PyData} {as:List Addr},ReadsAll hp us ds as->us.any fq=ds.any fun e=>PyData.eqv e dx
 | _,_,_,.nil=>rfl
 | _,_,_,.cons r t=>by rw[qcv,qcv,hf _ _ _ r,kZ hf t]
theorem lu:∀{us:List Value} {ds:List PyData} {as:List Addr},ReadsAll hp us ds as->∀u∈us,∃d as',d∈ds/\Reads hp u d as'
 | _,_,_,.nil,u,h=>nomatch h
 | _,_,_,.cons r t,u,h=>by
  rcases qan.mp h with rfl|h
  ·exact⟨_,_,qaH,r⟩
  ·obtain⟨d,as',hd,hr⟩:=lu t u h;exact⟨d,as',qak _ hd,hr⟩
noncomputable def fq(hp:Heap)(dx:PyData)(u:Value):Bool:=if z:∃d as,Reads hp u d as then PyData.eqv z.choose dx else false
theorem fq_is(r:Reads hp u d as):fq hp dx u=PyData.eqv d dx:=by
 have z:∃d as,Reads hp u d as:=⟨d,as,r⟩;unfold fq;rw[dif_pos z];obtain⟨as',h'⟩:=z.choose_spec;rw[<-(Reads.unique r _ _ h').1]
theorem oj_in(hr:Room k X.A)(neg:Bool):OpJ X (compareOp (if neg then .NotIn else .In)) (kh neg):=by
 intro BN s σ H x' y' u v Q I rx' ry' ⟨ρ,h,x,y,rh,rx,ry,q⟩;unfold kh at q
 cases es:bL h y with
 | none=>rw[es] at q;exact q.elim
 | some ys =>
  rw[es] at q;dsimp only at q;obtain⟨a,zs,rfl,hsq,rzs⟩:=iz rh ry es
  cases ex:rd 60 h x with
  | none=>rw[ex] at q;exact q.elim
  | some dx =>
   rw[ex] at q
   cases ed:bB (rd 60 h) ys with
   | none=>rw[ed] at q;exact q.elim
   | some ds =>
    rw[ed] at q;dsimp only at q;by_cases hl:dx.canLay0=true/\PyData.canLayAll0 ds=true
    ·rw[qaf hl] at q;cases ry';obtain⟨_,rX⟩:=de I rh 60 x x' u dx rx rx' ex;have hdp:=(ni 60 x dx ex).1;have eqs:∀(its:List Value),ar zs its->(∀w∈its,SeqAt.EqAt X.A.in1 s w u (fq s.heap dx w))/\its.any (fq s.heap dx)=ds.any fun e=>PyData.eqv e dx:=fun its rv=>by
      obtain⟨as,RA⟩:=dl (fun v v' u d r1 r2 e=>de I rh 60 v v' u d r1 r2 e) rzs rv ed;refine⟨fun w hw=>?_,kZ (fun u d as r=>fq_is r) RA⟩;obtain⟨d,as',hd,hrd⟩:=lu RA w hw;rw[fq_is hrd];refine SeqAt.eqAt_reads d dx X.A.in1 s w u _ _ hrd rX (js hl.2 d hd) hl.1 ?_
      have:=hr.un
      show X.A.units+1+_<_;omega
     cases neg with
     | false =>
      rcases hsq with hq|hq
      ·obtain⟨its,rv,pl,hz⟩:=I.list hq;obtain⟨h1,h2⟩:=eqs its rv;refine SeqAt.in_listAt (fq s.heap dx) pl.isList (fun w hw=>h1 w (by simpa using hw)) ⟨.bl _,H,I,rfl,?_⟩;rw[show its.toArray.any (fq s.heap dx)=its.any (fq s.heap dx) by simp,h2];exact q ρ H _ (Le.refl _ _) rh (.bl _)
      ·obtain⟨its,rv,pl,hz⟩:=I.tuple hq;obtain⟨h1,h2⟩:=eqs its rv;refine SeqAt.in_tupleAt (fq s.heap dx) pl (fun w hw=>h1 w (by simpa using hw)) ⟨.bl _,H,I,rfl,?_⟩;rw[show its.toArray.any (fq s.heap dx)=its.any (fq s.heap dx) by simp,h2];exact q ρ H _ (Le.refl _ _) rh (.bl _)
     | true =>
      rcases hsq with hq|hq
      ·obtain⟨its,rv,pl,hz⟩:=I.list hq;obtain⟨h1,h2⟩:=eqs its rv;refine SeqAt.notIn_listAt (fq s.heap dx) pl.isList (fun w hw=>h1 w (by simpa using hw)) ⟨.bl _,H,I,rfl,?_⟩;rw[show its.toArray.any (fq s.heap dx)=its.any (fq s.heap dx) by simp,h2];exact q ρ H _ (Le.refl _ _) rh (.bl _)
      ·obtain⟨its,rv,pl,hz⟩:=I.tuple hq;obtain⟨h1,h2⟩:=eqs its rv;refine SeqAt.notIn_tupleAt (fq s.heap dx) pl (fun w hw=>h1 w (by simpa using hw)) ⟨.bl _,H,I,rfl,?_⟩;rw[show its.toArray.any (fq s.heap dx)=its.any (fq s.heap dx) by simp,h2];exact q ρ H _ (Le.refl _ _) rh (.bl _)
    ·rw[qai hl] at q;exact q.elim
noncomputable def fList(xs:List PV)(h:MH):Out PV:=match xs with
 | [x]=>(match bL h x with
  | some ys=>newL ys h
  | none=>.bad)
 | _=>.bad
noncomputable def fTuple(xs:List PV)(h:MH):Out PV:=match xs with
 | [x]=>(match bL h x with
  | some ys=>.ok (.tup ys) h
  | none=>.bad)
 | _=>.bad
theorem kG:bY X (.type "list") fList:=by
 intro BN s σ H xs us Q I r ⟨ρ,h,ps,rh,rp,q⟩
 cases rp with
 | nil=>exact q.elim
 | cons r1 t1 =>
  cases t1 with
  | cons _ _=>exact q.elim
  | nil =>
   rename_i x y
   unfold fList at q
   cases es:bL h x with
   | none=>simp only[es] at q;exact q.elim
   | some ys =>
    simp only[es] at q;obtain⟨a,zs,rfl,hsq,rzs⟩:=iz rh r1 es;obtain⟨_,q'⟩:=iB rh rzs q;exact mI BN s σ H _ us Q I r ⟨a,zs,rfl,hsq,q'⟩
theorem uy:bY X (.type "tuple") fTuple:=by
 intro BN s σ H xs us Q I r ⟨ρ,h,ps,rh,rp,q⟩
 cases rp with
 | nil=>exact q.elim
 | cons r1 t1 =>
  cases t1 with
  | cons _ _=>exact q.elim
  | nil =>
   rename_i x y
   unfold fTuple at q
   cases es:bL h x with
   | none=>simp only[es] at q;exact q.elim
   | some ys =>
    simp only[es] at q;obtain⟨a,zs,rfl,hsq,rzs⟩:=iz rh r1 es;rcases hsq with hq|hq
    ·refine gC BN s σ H _ us Q I r ⟨a,zs,rfl,.inl ⟨hq,fun l hl=>?_⟩⟩;obtain⟨r',l'⟩:=rh.tup hl zs;exact q ρ _ _ l' r' (.tup (SqT.of bz) (rzs.le l'))
    ·exact gC BN s σ H _ us Q I r ⟨a,zs,rfl,.inr ⟨hq,q ρ H _ (Le.refl _ _) rh (.tup hq rzs)⟩⟩
def df(xs:List PV)(lo hi:Option Int):List PV:=(xs.drop (HT.sIx xs.length 0 lo)).take (HT.sIx xs.length xs.length hi - HT.sIx xs.length 0 lo)
noncomputable def fSl(x:PV)(lo hi:Option Int)(h:MH):Out PV:=match x with
 | .tup xs=>if HT.sIx xs.length 0 lo=0/\HT.sIx xs.length xs.length hi=xs.length then .bad else .ok (.tup (df xs lo hi)) h
 | .frl xs=>.ok (.loc h.length) (h++[.lst (df xs lo hi)])
 | .loc n=>(match h[n]? with
  | some (.lst xs)=>.ok (.loc h.length) (h++[.lst (df xs lo hi)])
  | _=>.bad)
 | _=>.bad
def slJ(X:Cx)(f:PV->Option Int->Option Int->MH->Out PV):V->Option Int->Option Int->Hp->VK->Prop:=fun x' lo hi H Q=>∃ρ h x,RH X.K X.mg ρ H h/\RP X.K ρ H x x'/\fj X (RV' X) ρ H (f x lo hi h) Q
theorem kB{K:qaa}{ρ:List Addr}{H:Hp}{xs:List PV}{ys:List V}(r:RPs K ρ H xs ys)(lo hi:Option Int):RPs K ρ H (df xs lo hi) (eN ys lo hi):=by
 unfold df eN;rw[r.length];exact (r.drop _).take _
theorem sj_sl:SlR X (slJ X fSl):=by
 intro BN s σ H x' v vl vu lo hi sl Q I rx hs pl pu ⟨ρ,h,x,rh,rxx,q⟩
 cases rxx with
 | tup s1 r1 =>
  unfold fSl at q;dsimp only at q
  rename_i xs a ys
  by_cases z:HT.sIx xs.length 0 lo=0/\HT.sIx xs.length xs.length hi=xs.length
  ·rw[qaf z] at q;exact q.elim
  ·rw[qai z] at q;refine sl_tup BN s σ H _ v vl vu lo hi sl Q I rx hs pl pu ⟨a,ys,rfl,s1,by rw[<-r1.length];exact z,fun p hp=>?_⟩;obtain⟨r',l'⟩:=rh.tup hp (eN ys lo hi);exact q ρ _ _ l' r' (.tup (SqT.of bz) ((kB r1 lo hi).le l'))
 | frl s1 r1 =>
  rename_i xs a ys
  refine o8 BN s σ H _ v vl vu lo hi sl Q I rx hs pl pu ⟨a,ys,rfl,s1.sq,fun p hp=>?_⟩;obtain⟨r',l'⟩:=rh.new hp (o:=.lst (df xs lo hi)) (ho:=.lst (eN ys lo hi)) ⟨_,rfl,kB r1 lo hi⟩;exact q _ _ _ l' r' (.loc (by rw[<-rh.len];simp))
 | @loc n a en =>
  obtain⟨o,eo,ro⟩:=rh.obj en;unfold fSl at q;dsimp only at q;rw[eo] at q
  cases o with
  | lst xs =>
   obtain⟨ys,ey,ry⟩:=ro;refine o8 BN s σ H _ v vl vu lo hi sl Q I rx hs pl pu ⟨a,ys,rfl,SqL.of ey,fun p hp=>?_⟩;obtain⟨r',l'⟩:=rh.new hp (o:=.lst (df xs lo hi)) (ho:=.lst (eN ys lo hi)) ⟨_,rfl,kB ry lo hi⟩;exact q _ _ _ l' r' (.loc (by rw[<-rh.len];simp))
  | _=>exact q.elim
 | _=>exact q.elim
def MO'(X:Cx)(e:Option Expr)(m:Mx (Option Int)):Prop:=PO X e (tM X REq m)
def mNo:Mx (Option Int):=fun _ h=>.ok none h
def mPt(m:Mx PV):Mx (Option Int):=fun σ h=>(m σ h).bind fun v h1=>match v with
 | .int i=>.ok (some i) h1
 | _=>.bad
theorem cv:MO' X none mNo:=fun BN s σ H Q I ⟨ρ,σp,h,rs,rh,q⟩=>po_none BN s σ H Q I (q ρ H none (Le.refl _ _) rh rfl)
theorem cy(h:ME X e m):MO' X (some e) (mPt m):=fun BN s σ H Q I ⟨ρ,σp,hh,rs,rh,q⟩=>po_some h BN s σ H Q I ⟨ρ,σp,hh,rs,rh,Ful.bind q fun ρ1 H1 v v' h1 _ l1 rh1 rv q1=>by
 cases rv with
 | int i=>exact⟨i,rfl,q1 ρ1 H1 (some i) (Le.refl _ _) rh1 rfl⟩
 | _=>exact q1.elim⟩
noncomputable def mSl(m:Mx PV)(ml mh:Mx (Option Int)):Mx PV:=fun σ h=>(m σ h).bind fun x h1=>(ml σ h1).bind fun lo h2=>(mh σ h2).bind fun hi h3=>(fSl x lo hi h3).ne
theorem dG{e:Expr}{lo hi:Option Expr}{m:Mx PV}{ml mh:Mx (Option Int)}{p2:Pos}(he:ME X e m)(hl:MO' X lo ml)(hu:MO' X hi mh):ME X (.Subscript e (.Slice lo hi none p2) pos) (mSl m ml mh) :=
 PE.imp (tL sj_sl he hl hu) fun σ H Q ⟨ρ,σp,h,rs,rh,q⟩=>⟨ρ,σp,h,rs,rh,Ful.bind q fun ρ1 H1 x x' h1 _ l1 rh1 rx q1=>⟨ρ1,σp,h1,rs.le l1,rh1,Ful.bind q1 fun ρ2 H2 lo lo' h2 _ l2 rh2 el q2=>by
  subst el
  exact⟨ρ2,σp,h2,rs.le (l1.trans l2),rh2,Ful.bind q2 fun ρ3 H3 hi hi' h3 _ l3 rh3 eh q3=>by
   subst eh
   exact⟨ρ3,h3,x,rh3,(rx.le l2).le l3,q3.zero⟩⟩⟩⟩
end
section
variable {X:Cx} {N W G:List Str} {k:Nat}
theorem tz{A:Around}{E:Value->Shared->Prop}{BN:List (Addr × Obj)}{σ:L2.St}{H:Hp}{s:Shared}{a:Addr}{ys:List V}{Q:Value->Shared->Prop}(hh:A.handled=none)(I:Inv X BN σ H s)(hq:SqL X.K H a ys\/SqT X.K H a ys)
  (h:∀(its:List Value) (h2:Heap) (It:Addr) (St:Nat->Heap->Prop),ar ys its->Walks X.prog X.w A It [It,a] [It] its.toArray.size (fun i v=>its.toArray[i]?=some v) St->St 0 h2->(∀b∈[It,a],b<h2.objs.size)->(∀b o,s.heap.get? b=some o->h2.get? b=some o)->s.heap.objs.size=It->Q (.ref It) { s with heap:=h2}) :
  wpAny (model X.prog X.w) A (pyIter (.ref a)) Q E s:=by
 have sz:∀(o:Obj),a<s.heap.objs.size->∀b∈[s.heap.objs.size,a],b<(s.heap.push o).objs.size:=fun o hlt b hb=>by
  rw[qbz];rcases qan.mp hb with rfl|hb
  ·exact qbT _
  ·rcases qan.mp hb with rfl|hb
   ·exact qch hlt
   ·cases hb
 rcases hq with hq|hq
 ·obtain⟨its,rv,pl,_⟩:=I.list hq;have hl:=pl.isList;have hlt:a<s.heap.objs.size:=by obtain⟨_,e,_⟩:=hl;exact qao e
  exact wpAny_pyIter_list hl (h its _ _ _ rv (Walks.list hh _ a (qaJ hlt) its.toArray) ⟨⟨_,qaz _ rfl,rfl,rfl⟩,hl.push _⟩ (sz _ hlt) (fun b o e=>qae _ e) rfl)
 ·obtain⟨its,rv,hl,_⟩:=I.tuple hq;have hlt:a<s.heap.objs.size:=by obtain⟨_,e,_⟩:=hl;exact qao e
  exact wpAny_pyIter_tuple hl (h its _ _ _ rv (Walks.tuple hh _ a (qaJ hlt) its.toArray) ⟨⟨_,qaz _ rfl,rfl,rfl⟩,hl.push _⟩ (sz _ hlt) (fun b o e=>qae _ e) rfl)
theorem kept2{s:Shared}{h2 h':Heap}{It:Addr}(k1:∀b o,s.heap.get? b=some o->h2.get? b=some o)(e:s.heap.objs.size=It)(k2:∀b o,b∉[It]->h2.get? b=some o->h'.get? b=some o):∀b o,s.heap.get? b=some o->h'.get? b=some o:=fun b o q=>by
 refine k2 b o (fun hm=>?_) (k1 b o q)
 have:b=It:=by simpa using hm
 exact absurd (qao q) (by rw[this,e];exact qaO _)
def iW:List PV->Option (List Bool)
 | []=>some []
 | .bl b::r=>(iW r).map (b::·)
 | _=>none
theorem bls_rel{K:qaa}{ρ:List Addr}{H:Hp}:∀{xs:List PV} {ys:List V} {bs:List Bool} {us:List Value},RPs K ρ H xs ys->ar ys us->iW xs=some bs->us=bs.map Value.bool:=by
 intro xs
 induction xs with
 | nil=>intro ys bs us r v e;cases r;cases v;cases e;rfl
 | cons x xs ih =>
  intro ys bs us r v e
  cases r with
  | cons r1 r2 =>
   cases v with
   | cons v1 v2 =>
    cases r1 with
    | bl b =>
     simp only[iW,qap] at e;obtain⟨bs',e',rfl⟩:=e;rw[ih r2 v2 e',show _=Value.bool b from v1];rfl
    | _=>cases e
theorem oH(bs:List Bool):TruthOf X.prog X.w A (fun i v=>(bs.map Value.bool).toArray[i]?=some v) (fun i=>bs.getD i false):=fun i v s Q E hP hQ=>by
 have:v=.bool (bs.getD i false):=by
  have hP:(List.map Value.bool bs).toArray[i]?=some v:=hP;rw[qcs,qax,qap] at hP;obtain⟨b,e,rfl⟩:=hP;rw[List.getD_eq_getElem?_getD,e];rfl
 subst this;exact wpAny_truthy_bool hQ
theorem rE(bs:List Bool):(List.range bs.length).all (fun i=>bs.getD i false)=bs.all id:=by
 induction bs with
 | nil=>rfl
 | cons b r ih =>
  rw[qaM,qcm,List.all_cons,qbR,List.all_cons,<-ih];rfl
noncomputable def fAll(xs:List PV)(h:MH):Out PV:=match xs with
 | [x]=>(match (bL h x).bind iW with
  | some bs=>.ok (.bl (bs.all id)) h
  | none=>.bad)
 | _=>.bad
theorem rH(g:Good X N W G k):bY X (.builtin "all") fAll:=by
 intro BN s σ H xs us Q I r ⟨ρ,h,ps,rh,rp,q⟩
 cases rp with
 | nil=>exact q.elim
 | cons r1 t1 =>
  cases t1 with
  | cons _ _=>exact q.elim
  | nil =>
   rename_i x y
   unfold fAll at q
   cases es:(bL h x).bind iW with
   | none=>simp only[es] at q;exact q.elim
   | some bs =>
    simp only[es] at q;obtain⟨ys,e1,e2⟩:=qbq.mp es;obtain⟨a,zs,rfl,hsq,rzs⟩:=iz rh r1 e1
    cases r with
    | cons ru tu =>
     cases tu;cases ru;refine call_all_walk (tz (A:=X.A.in1) g.room.hd I hsq fun its h2 It St rv Wk st fp kp esz=>?_);have ei:=bls_rel rzs rv e2;refine⟨It,_,_,_,_,St,_,rfl,Wk,st,by rw[ei];exact oH bs,fun h' tk kk=>?_⟩;have el:its.toArray.size=bs.length:=by rw[ei];simp
     rw[el,rE];exact⟨.bl _,H,I.kept (kept2 kp esz kk),rfl,q ρ H _ (Le.refl _ _) rh (.bl _)⟩
end
theorem RH.loose{K:qaa}{mg:MGl}{ρ:List Addr}{H:Hp}{h:MH}(r:RH K mg ρ H h){p:Addr}(hp:H p=none)(ho:HO):RH K mg ρ (upd H p ho) h/\Le ρ H ρ (upd H p ho):=by
 have hne:∀n a,ρ[n]?=some a->a≠p:=fun n a e z=>by
  obtain⟨o',_,q⟩:=r.obj e;rw[z,hp] at q;exact q.some rfl
 have l:Le ρ H ρ (upd H p ho):=⟨⟨[],by simp⟩,fun a xs e=>by rw[aH (bh e hp)];exact e,fun a ob u e=>by rw[aH (bh e hp)];exact e⟩;exact⟨⟨r.len,r.nd,fun n a o e1 e2=>by rw[aH (hne n a e1)];exact (r.at' n a o e1 e2).le l⟩,l⟩
section
variable {X:Cx} {N W G:List Str} {k:Nat}
def gT(xs:List PV)(i:Int)(v:PV):List PV :=
 let k:=if i<0 then (i+(xs.length:Int)).toNat else min i.toNat xs.length
 xs.take k++v::xs.drop k
def fJ(n:Nat)(vs:List PV)(h:MH):Out PV:=match vs with
 | [.int i,v]=>(match h[n]? with
  | some (.lst xs)=>if (-(2 ^ 63)<=i/\i<2 ^ 63)/\xs.length<sizeLine then .ok .non (h.set n (.lst (gT xs i v))) else .bad
  | _=>.bad)
 | _=>.bad
theorem r9:MtR X "list.insert" (mtJ X fJ):=by
 intro BN s σ H x vs v us Q I rx rv ⟨ρ,h,n,a,ps,e,en,rh,rp,q⟩;subst e;obtain⟨o,eo,ro⟩:=rh.obj en;unfold fJ at q
 split at q
 ·rename_i i vv
  cases rp with
  | cons r1 t1 =>
   cases t1 with
   | cons r2 t2 =>
    cases t2;cases r1;rw[eo] at q
    cases o with
    | lst xs =>
     dsimp only at q;by_cases hl:(-(2 ^ 63)<=i/\i<2 ^ 63)/\xs.length<sizeLine
     ·rw[qaf hl] at q;obtain⟨ys,ey,ry⟩:=ro;cases rx
      cases rv with
      | cons rv1 tv1=>cases tv1 with
       | cons rv2 tv2 =>
        cases tv2
        rename_i v' u1 u2
        obtain⟨t,rfl⟩:=rv1;obtain⟨z,its,nn,r,hlen,e⟩:=I.lstM ey
        let kk:=if i<0 then (i+(its.length:Int)).toNat else min i.toNat its.length
        have rel:RPs X.K ρ H (gT xs i vv) (ys.take kk++v'::ys.drop kk):=by
         have:(if i<0 then (i+(xs.length:Int)).toNat else min i.toNat xs.length)=kk:=by
          show _=(if i<0 then (i+(its.length:Int)).toNat else min i.toNat its.length);rw[ry.length,hlen]
         unfold gT;rw[this];exact (ry.take kk).append (.cons r2 (ry.drop kk))
        obtain⟨rh',l'⟩:=rh.put en (o:=.lst (gT xs i vv)) (ho:=.lst (ys.take kk++v'::ys.drop kk)) ⟨_,rfl,rel⟩;refine call_meets PySem.F.slot_list_insert ⟨_,e,rfl⟩ PySem.F.entry_list_insert (PySem.F.args_list_insert_3 _ _ _) (AutoListH.list_insert_list_int_val_1 a its.toArray nn i t u2 (by rw[fitsIndex_both hl.1.1 hl.1.2];simp) (by rw[qal];omega)) ⟨e,?_⟩;have vals:ar (ys.take kk++v'::ys.drop kk) (its.take kk++u2::its.drop kk):=(r.take kk).append (.cons rv2 (r.drop kk));have hlz:(ys.take kk++v'::ys.drop kk).length<=sizeLine:=by
         rw[<-rel.length];have e1:(gT xs i vv).length=xs.length+1:=by
          unfold gT;simp only[qaN,qaM,qbt,qbS];omega
         omega
        refine⟨.non,_,I.lset (its':=its.take kk++u2::its.drop kk) ey e ?_ vals hlz,rfl,q ρ _ .non l' rh' .non⟩;apply Array.ext';simp only[qaP,qaY,qbn,qal];simp[kk,List.extract];refine qaW ?_;rw[qbS];exact qag _
     ·rw[qai hl] at q;exact q.elim
    | _=>exact q.elim
 ·exact q.elim
def tRng1(ta:TA):TE:=fun σ H Q=>ta σ H fun vs H1=>∃j:Int,vs=[.int j] /\ -(2 ^ 62)<=j/\j<2 ^ 62/\∀p,H1 p=none->Q (.ref p) (upd H1 p (.rng 0 j))
theorem rW(hg:Gl X "range")(hm:X.mg "range"=none)(ha:PA X [a] ta)(hs:starEach [a] X.env=[(false,eval a X.env)]:=by rfl):PE X (.Call (.Name "range" p) [a] [] pos) (tRng1 ta):=by
 intro BN s σ H R I h;refine Call_ (fB I hg hm boot_range (PyProof.Rows.callWith_type1 (thn (ha pos BN s σ H _ I h) fun us s1 ⟨vs,H1,I1,r1,q1⟩=>?_) hs rfl));obtain⟨j,e,q1,q2,q⟩:=q1;subst e
 cases r1 with
 | cons r rr =>
  cases rr;obtain⟨t,rfl⟩:=r;refine call_range_1 ⟨.ref s1.heap.objs.size,_,I1.laid (o:=.rng 0 j) (fun b o e=>qae _ e) (qag _) ?_,rfl,q _ (I1.hok.fresh (qag _))⟩;exact⟨_,_,_,qaz _ rfl⟩
theorem jx:∀(n:Nat) (lo:Int) (us:List Value),us.length=n->(∀(i:Nat) (v:Value),us[i]?=some v->∃t,v=.int (lo+i) t)->ar ((List.range n).map fun i=>V.int (lo+(i:Nat))) us
 | 0,lo,us,hl,_=>by cases us with | nil=>exact .nil | cons _ _=>simp at hl
 | n+1,lo,us,hl,h=>by
  cases us with
  | nil=>simp at hl
  | cons u us =>
   rw[qcm,qaL,qbl];obtain⟨t,e⟩:=h 0 u rfl;refine .cons ⟨t,e⟩ ?_;have ih:=jx n (lo+1) us (by simpa using hl) fun i v hv=>by
    obtain⟨t,e⟩:=h (i+1) v (by simpa using hv);exact⟨t,by rw[e];congr 1;push_cast;omega⟩
   have e2:((fun i=>V.int (lo+((i:Nat):Int)))∘Nat.succ)=fun i=>V.int (lo+1+((i:Nat):Int)):=by
    funext i;simp only[Function.comp];congr 1;push_cast;omega
   rw[e2];exact ih
theorem lG(hh:X.calm=true):bK X (.type "list") (fun xs H Q=>∃r j,xs=[.ref r]/\H r=some (.rng 0 j) /\ -(2 ^ 62)<=j/\j<2 ^ 62/\j.toNat<=sizeLine/\∀l,H l=none->Q (.ref l) (upd H l (.lst ((List.range j.toNat).map fun i=>V.int (0+(i:Nat)))))):=by
 intro BN s σ H xs us Q I r ⟨ra,j,e,hr,h1,h2,h3,q⟩;subst e
 cases r with
 | cons r1 t1 =>
  cases t1;cases r1;obtain⟨t,u,v,ho⟩:=(show ObjOk X.prog X.w H s.heap ra (.rng 0 j) from I.hok ra _ hr);refine call_list_range (n:=j.toNat) (I.ok.hd hh) ho (small_one (by omega) (by omega) h1 h2) (by rw[rangeSize_one];split <;> omega) h3 fun h' tk acc' c' kp e it=>?_;have va:ar ((List.range j.toNat).map fun i=>V.int (0+(i:Nat))) acc'.toList:=jx _ 0 _ (by rw[qaR];exact it.1) fun i v hv=>by
   obtain⟨t,e⟩:=it.2 i v (by rw[<-qaF];exact hv);exact⟨t,by rw[e];congr 1;omega⟩
  refine⟨.ref s.heap.objs.size,_,I.laid (o:=.lst _) kp (qag _) (show ObjOk X.prog X.w _ h' _ (.lst _) from⟨by simpa using h3,acc'.toList,c',va,by simpa using e⟩),rfl,q _ (I.hok.fresh (qag _))⟩
def mLR(m:Mx (List PV)):Mx PV:=fun σ h=>(m σ h).bind fun vs h1=>match vs with
 | [.int j]=>if -(2 ^ 62)<=j/\j<2 ^ 62/\j.toNat<=sizeLine then .ok (.loc h1.length) (h1++[.lst (bq 0 j.toNat)]) else .bad
 | _=>.bad
theorem lz{K:qaa}{ρ:List Addr}{H:Hp}{lo:Int}:∀(l:List Nat),RPs K ρ H (l.map fun (i:Nat)=>PV.int (lo+(i:Int))) (l.map fun (i:Nat)=>V.int (lo+(i:Int)))
 | []=>.nil
 | i::l=>.cons (.int _) (lz l)
theorem nV(g:Good X N W G k){a:Expr}{m:Mx (List PV)}{i j:Nat}{p p' pos pos':Pos}(hi:G[i]?=some "list")(hm:X.mg "list"=none)(hj:G[j]?=some "range")(hm':X.mg "range"=none)(ha:MA X [a] m)
  (hs:starEach [a] X.env=[(false,eval a X.env)]:=by rfl) (he:starEach [.Call (.Name "range" p') [a] [] pos'] X.env=[(false,eval (.Call (.Name "range" p') [a] [] pos') X.env)]:=by rfl):ME X (.Call (.Name "list" p) [.Call (.Name "range" p') [a] [] pos'] [] pos) (mLR m):=by
 have d:=g.dbg _ (qac _ (aw hi));refine PE.imp (lc (lG g.calm) (g.gl _ (aw hi)) hm PyProof.Rows.Boot.«list» (bU (rW (g.gl _ (aw hj)) hm' ha hs) eE he) d.2.2 d.1 he rfl) fun σ H Q ⟨ρ,σp,h,rs,rh,q⟩=>?_;refine⟨ρ,σp,h,rs,rh,Ful.bind q fun ρ1 H1 x x' h1 _ l1 rh1 rx q1=>?_⟩
 cases rx with
 | nil=>exact q1.elim
 | cons r1 t1 =>
  cases t1 with
  | cons _ _=>cases r1 <;> exact q1.elim
  | nil =>
   cases r1 with
   | int jj =>
    dsimp only at q1;by_cases z:-(2 ^ 62)<=jj/\jj<2 ^ 62/\jj.toNat<=sizeLine
    ·rw[qaf z] at q1;refine⟨jj,rfl,z.1,z.2.1,fun r hr=>?_⟩;obtain⟨rh2,l2⟩:=rh1.loose hr (.rng 0 jj);refine⟨r,jj,rfl,bz,z.1,z.2.1,z.2.2,fun l hl=>?_⟩;obtain⟨rh3,l3⟩:=rh2.new hl (o:=.lst (bq 0 jj.toNat)) (ho:=.lst _) ⟨_,rfl,lz _⟩;exact q1 _ _ _ (l2.trans l3) rh3 (.loc (by rw[<-rh1.len];simp))
    ·rw[qai z] at q1;exact q1.elim
   | _=>exact q1.elim
end
end MM
namespace SetT
open PySem PySem.SetTable
def base(M:Nat)(h:Int):Nat->Nat × Nat
 | 0=>(bits h % (M+1),bits h)
 | b+1=>leap M (base M h b).1 (base M h b).2
section
variable {prog:Program} {w:World} {A:Around} {E:Value→Shared→Prop} {s:Shared}
abbrev TK(prog:Program)(w:World)(h:Heap)(k:List Int)(a:Addr):Prop:=IsTupleKey (intKind prog w) h k a
end
section
variable {prog:Program} {w:World} {A:Around} {E:Value→Shared→Prop} {s:Shared}
end
section
variable {prog:Program} {w:World} {A:Around} {E:Value→Shared→Prop} {s:Shared}
end
end SetT
namespace SetT
open PySem PySem.SetTable PyProof.Rows
section
variable {prog:Program} {w:World} {A:Around} {E:Value→Shared→Prop} {s:Shared}
def Ext(H0 h:Heap):Prop:=∀b o,H0.get? b=some o->h.get? b=some o
theorem sE(x:Ext H0 h)(t:TK prog w H0 k a):TK prog w h k a:=by
 obtain⟨o,items,n,ho,r⟩:=t;exact⟨o,items,n,x a o ho,r⟩
def Lie(prog:Program)(w:World)(H0:Heap)(items:Array Value)(ks:List (List Int)):Prop :=
 items.size=ks.length/\∀(i:Nat) (v:Value) (k:List Int),items[i]?=some v->ks[i]?=some k->∃a,v=.ref a/\TK prog w H0 k a
end
section
variable {prog:Program} {w:World} {A:Around} {E:Value→Shared→Prop} {s:Shared}
end
section
variable {prog:Program} {w:World} {A:Around} {E:Value→Shared→Prop} {s:Shared}
end
section
variable {prog:Program} {w:World} {A:Around} {E:Value→Shared→Prop} {s:Shared} {S it:Addr} {o:Obj} {es:Array (Int × Value)} {ep:Nat} {t:SetTable} {ks:List (List Int)}
end
section
variable {prog:Program} {w:World} {A:Around} {E:Value→Shared→Prop} {s:Shared} {S:Addr} {o:Obj} {es:Array (Int × Value)} {ep:Nat} {t:SetTable}
end
end SetT
namespace SortT
open PySem PyProof.Rows
structure Cmp (prog:Program) (w:World) (A:Around) (E:Value->Shared->Prop) (s:Shared) (kd:SortKind) (O:KeyOrd) where
 key:Keyed->O.α
 dflt:O.α
 good:Keyed->Prop
 ask:∀(x y:Keyed) (st:SortSt) (Q:Option Bool->SortSt->Prop),good x->good y->kindOf st=kd->Q (some (O.blt (key x) (key y))) st->wpS (model prog w) A E s (lt' x y) Q st
section
variable {prog:Program} {w:World} {A:Around} {E:Value→Shared→Prop} {s:Shared} {kd:SortKind} {O:KeyOrd} (C:Cmp prog w A E s kd O)
def kk(xs:Array Keyed)(i:Nat):O.α:=match xs[i]? with
 | some p=>C.key p
 | none=>C.dflt
def Srt(xs:Array Keyed)(lo hi:Nat):Prop:=∀i j,lo<=i->i<=j->j<hi->O.kle (kk C xs i) (kk C xs j)
def Fal(xs:Array Keyed)(lo hi:Nat):Prop:=∀i j,lo<=i->i<=j->j<hi->O.kle (kk C xs j) (kk C xs i)
def bJ(xs:Array Keyed):Prop:=∀p,p∈xs.toList->C.good p
structure SB (kd:SortKind) (a₀:Array Keyed) (st:SortSt):Prop where
 perm:(arrOf st).Perm a₀
 kind:kindOf st=kd
 failed:failedOf st=none
def bM(lo:Nat)(xs ys:Array Keyed):Prop:=∀i,i<lo->ys[i]?=xs[i]?
theorem bM.rfl'{lo:Nat}{xs:Array Keyed}:bM lo xs xs:=fun _ _=>rfl
theorem bM.trans{lo:Nat}{xs ys zs:Array Keyed}(h:bM lo xs ys)(g:bM lo ys zs):bM lo xs zs:=fun i hi=>(g i hi).trans (h i hi)
variable {C} {a₀:Array Keyed} {st:SortSt}
theorem SB.size(h:SB kd a₀ st):(arrOf st).size=a₀.size:=h.perm.size_eq
theorem SB.arr(h:SB kd a₀ st)(hp:xs.Perm (arrOf st)):SB kd a₀ (setArr st xs):=⟨hp.trans h.perm,h.kind,h.failed⟩
theorem SB.good(h:SB kd a₀ st)(h0:bJ C a₀):bJ C (arrOf st):=fun p hp=>h0 p ((qbx.mp h.perm).mem_iff.mp hp)
theorem cR(h:xs[i]?=ys[j]?):kk C xs i=kk C ys j:=by unfold kk;rw[h]
theorem aJ(h:xs[i]?=some p):kk C xs i=C.key p:=by unfold kk;rw[h]
theorem bc{xs:Array Keyed}(g:bJ C xs){i:Nat}{p:Keyed}(h:xs[i]?=some p):C.good p:=by
 refine g p (qaE.mpr ⟨i,?_⟩);rw[qaF];exact h
theorem aM(hi:i<xs.size)(h:∀p,xs[i]?=some p->Q p st):wpS (model prog w) A E s (elem' xs i) Q st:=by
 rw[elem'_eq];have e:xs[i]?=some xs[i]:=getElem?_pos xs i hi;rw[e];exact wpS_pure (h _ e)
theorem g6{i j:Nat}{Q:Option Bool->SortSt->Prop}(hB:SB kd a₀ st)(h0:bJ C a₀)(hi:i<a₀.size)(hj:j<a₀.size)
  (h:Q (some (O.blt (kk C (arrOf st) i) (kk C (arrOf st) j))) st):wpS (model prog w) A E s (ltAt' i j) Q st:=by
 rw[ltAt'_eq];refine wpS_bind (wpS_get ?_);refine wpS_bind (aM (by rw[hB.size];exact hi) fun x hx=>wpS_bind (aM (by rw[hB.size];exact hj) fun y hy=>?_));rw[aJ hx,aJ hy] at h;exact C.ask x y st Q (bc (hB.good h0) hx) (bc (hB.good h0) hy) hB.kind h
theorem lr(hs:src<xs.size)(hd:d<=src)(i:Nat) :
  kk C (bubble xs src d) i=if i=src - d then kk C xs src else if src - d<i/\i<=src then kk C xs (i - 1) else kk C xs i:=by
 have e:=getElem?_bubble hs d hd i;split
 ·next h1=>rw[qaf h1] at e;exact cR e
 ·next h1 =>
  rw[qai h1] at e;split
  ·next h2=>rw[qaf h2] at e;exact cR e
  ·next h2=>rw[qai h2] at e;exact cR e
theorem gI(hj:j<=xs.size)(q:Nat) :
  kk C (mirror xs i j ((j - i) / 2)) q=if i<=q/\q<j then kk C xs (i+j - 1 - q) else kk C xs q:=by
 have e:=getElem?_mirror_all (i:=i) hj q;split
 ·next h1=>rw[qaf h1] at e;exact cR e
 ·next h1=>rw[qai h1] at e;exact cR e
theorem ci(hj:j<=xs.size)(heq:∀q,i<=q->q<j->kk C xs q=kk C xs (j - 1))(q:Nat) :
  kk C (mirror xs i j ((j - i) / 2)) q=kk C xs q:=by
 rw[gI hj];split
 ·next h=>rw[heq (i+j - 1 - q) (by lia) (by lia),heq q h.1 h.2]
 ·rfl
theorem dk{xs:Array Keyed}{lo i j:Nat}(hj:j<=xs.size)(h:lo<=i):bM lo xs (mirror xs i j ((j - i) / 2)):=fun q hq=>by
 rw[getElem?_mirror_all hj,qai (by lia)]
theorem oI{xs:Array Keyed}{lo src d:Nat}(hs:src<xs.size)(hd:d<=src)(h:lo<=src - d):bM lo xs (bubble xs src d):=fun q hq=>by
 rw[getElem?_bubble hs d hd,qai (by lia),qai (by lia)]
abbrev AS:=Option (Option Nat) × Nat
abbrev DS:=Option (Option Nat) × Nat × Nat
def fP(p a nrem:Nat):StateT SortSt Sem AS :=
 forIn [a:nrem] ((none,a):AS) fun _ c=>do
  let q <-ltAt' (p+c.2) (p+c.2 - 1)
  match q with
  | some z=>if z=true then pure (ForInStep.done (none,c.2)) else pure (ForInStep.yield (none,c.2+1))
  | _=>pure (ForInStep.done (some none,c.2))
def nY(p n nrem:Nat):StateT SortSt Sem (Option Nat):=do
 reverseSlice' p (p+n)
 let c <-fP p n nrem
 match c.1 with
 | some r=>pure r
 | none=>pure (some c.2)
def mj(p n nrem:Nat):StateT SortSt Sem DS :=
 forIn [n:nrem] ((none,n,0):DS) fun _ c=>do
  let q <-ltAt' (p+c.2.1) (p+c.2.1 - 1)
  match q with
  | some z =>
   if z=true then
    if c.2.2>0 then do
     reverseSlice' (p+c.2.1 - (c.2.2+1)) (p+c.2.1)
     pure (ForInStep.yield (none,c.2.1+1,0))
    else pure (ForInStep.yield (none,c.2.1+1,0))
   else do
    let q <-ltAt' (p+c.2.1 - 1) (p+c.2.1)
    match q with
    | some z=>if z=true then pure (ForInStep.done (none,c.2.1,c.2.2)) else pure (ForInStep.yield (none,c.2.1+1,c.2.2+1))
    | _=>pure (ForInStep.done (some none,c.2.1,c.2.2))
  | _=>pure (ForInStep.done (some none,c.2.1,c.2.2))
def nN(p n nrem:Nat):StateT SortSt Sem (Option Nat):=do
 liftM (rule "list.sort.descending-run")
 let c <-mj p (n+1) nrem
 match c.1 with
 | some r=>pure r
 | none =>
  if c.2.2>0 then do
   reverseSlice' (p+c.2.1 - (c.2.2+1)) (p+c.2.1)
   nY p c.2.1 nrem
  else nY p c.2.1 nrem
theorem run_eq(p nrem:Nat):countRun' p nrem=(do
  let c <-fP p 1 nrem
  match c.1 with
  | some r=>pure r
  | none =>
   if (c.2 == nrem)=true then pure (some c.2)
   else if c.2>1 then do
    let q <-ltAt' p (p+c.2 - 1)
    match q with
    | some z=>if z=true then pure (some c.2) else do
      reverseSlice' p (p+c.2)
      nN p c.2 nrem
    | _=>pure none
   else nN p c.2 nrem):=by
 rw[countRun'_eq];unfold nN nY;refine congrArg (fun g=>fP p 1 nrem >>= g) (funext fun c=>?_);obtain⟨r,n⟩:=c
 cases r with
 | some r=>rfl
 | none =>
  dsimp only;split
  ·rfl
  ·split
   ·congr 1;funext x
    cases x with
    | none=>rfl
    | some z =>
     dsimp only;split
     ·rfl
     ·refine congrArg _ (funext fun _=>?_);refine congrArg _ (funext fun _=>?_);refine congrArg (fun g=>mj p (n+1) nrem >>= g) (funext fun c2=>?_);obtain⟨r2,n2,q2⟩:=c2
      cases r2 with
      | some r2=>rfl
      | none =>
       dsimp only;split
       ·refine congrArg _ (funext fun _=>?_);refine congrArg _ (funext fun _=>?_);refine congrArg (fun g=>fP p n2 nrem >>= g) (funext fun c3=>?_);obtain⟨r3,n3⟩:=c3;cases r3 <;> rfl
       ·refine congrArg _ (funext fun _=>?_);refine congrArg (fun g=>fP p n2 nrem >>= g) (funext fun c3=>?_);obtain⟨r3,n3⟩:=c3;cases r3 <;> rfl
   ·refine congrArg _ (funext fun _=>?_);refine congrArg (fun g=>mj p (n+1) nrem >>= g) (funext fun c2=>?_);obtain⟨r2,n2,q2⟩:=c2
    cases r2 with
    | some r2=>rfl
    | none =>
     dsimp only;split
     ·refine congrArg _ (funext fun _=>?_);refine congrArg _ (funext fun _=>?_);refine congrArg (fun g=>fP p n2 nrem >>= g) (funext fun c3=>?_);obtain⟨r3,n3⟩:=c3;cases r3 <;> rfl
     ·refine congrArg _ (funext fun _=>?_);refine congrArg (fun g=>fP p n2 nrem >>= g) (funext fun c3=>?_);obtain⟨r3,n3⟩:=c3;cases r3 <;> rfl
theorem oQ(h0:bJ C a₀)(hn:p+nrem<=a₀.size)(ha:1<=a)(han:a<=nrem)(hB:SB kd a₀ st)
  (hs:Srt C (arrOf st) p (p+a))
  (h:∀n,a<=n->n<=nrem->Srt C (arrOf st) p (p+n)->(n=nrem\/O.klt (kk C (arrOf st) (p+n)) (kk C (arrOf st) (p+n - 1)))->Q (none,n) st) :
  wpS (model prog w) A E s (fP p a nrem) Q st:=by
 unfold fP;refine wpS_forRange (I:=fun x c st'=>st'=st/\c=(none,x)/\Srt C (arrOf st) p (p+x)) ?_ ?_ ⟨rfl,rfl,hs⟩
 ·rintro x c st' h1 h2 ⟨rfl,rfl,h3⟩;refine wpS_bind (g6 hB h0 (by lia) (by lia) ?_)
  cases hz:O.blt (kk C (arrOf st') (p+x)) (kk C (arrOf st') (p+x - 1)) with
  | true=>exact wpS_pure (h x h1 (by lia) h3 (.inr hz))
  | false =>
   refine wpS_pure ⟨rfl,rfl,fun i j hi hij hj=>?_⟩;by_cases hjx:j<p+x
   ·exact h3 i j hi hij hjx
   ·have e:j=p+x:=by lia
    subst e;by_cases hi':i=p+x
    ·subst hi';exact KeyOrd.kle_refl _
    ·exact KeyOrd.kle_trans (h3 i (p+x - 1) hi (by lia) (by lia)) hz
 ·rintro c st' ⟨rfl,rfl,h3⟩;have e:max a nrem=nrem:=by lia
  rw[e] at h3 ⊢;exact h nrem han (qag _) h3 (.inl rfl)
theorem iq(h:Q () (setArr st (mirror (arrOf st) i j ((j - i) / 2)))):wpS (model prog w) A E s (reverseSlice' i j) Q st:=by
 rw[reverseSlice'_eq];exact wpS_modify h
theorem oU(h0:bJ C a₀)(hn:p+nrem<=a₀.size)(h1:1<=n)(hnn:n<=nrem)(hB:SB kd a₀ st)
  (hs:Fal C (arrOf st) p (p+n))
  (h:∀m st',SB kd a₀ st'->bM p (arrOf st) (arrOf st')->pendingOf st'=pendingOf st->1<=m->m<=nrem->Srt C (arrOf st') p (p+m)->Q (some m) st') :
  wpS (model prog w) A E s (nY p n nrem) Q st:=by
 unfold nY;have hsz:p+n<=(arrOf st).size:=by rw[hB.size];lia
 refine wpS_bind (iq ?_);have hB':=hB.arr (mirror_perm (arrOf st) p (p+n) ((p+n - p) / 2));refine wpS_bind (oQ h0 hn h1 hnn hB' (fun i j hi hij hj=>?_) fun m a1 a2 a3 _=>wpS_pure (h m _ hB' (dk hsz (qag _)) rfl (by lia) a2 a3));show O.kle (kk C (mirror _ _ _ _) i) (kk C (mirror _ _ _ _) j);rw[gI hsz,gI hsz,qaf (by lia),qaf (by lia)];exact hs _ _ (by lia) (by lia) (by lia)
theorem wps_dsc{p n nrem:Nat}{Q:DS->SortSt->Prop}(h0:bJ C a₀)(hn:p+nrem<=a₀.size)(h1:1<=n)(hnn:n<=nrem)(hB:SB kd a₀ st)(hs:Fal C (arrOf st) p (p+n))
  (h:∀m q st',SB kd a₀ st'->bM p (arrOf st) (arrOf st')->pendingOf st'=pendingOf st->n<=m->m<=nrem->Fal C (arrOf st') p (p+m)->q+1<=m ->
   (∀i,p+m - (q+1)<=i->i<p+m->kk C (arrOf st') i=kk C (arrOf st') (p+m - 1))->Q (none,m,q) st') :
  wpS (model prog w) A E s (mj p n nrem) Q st:=by
 unfold mj
 refine wpS_forRange (I:=fun x c st'=>∃q,c=(none,x,q)/\SB kd a₀ st'/\bM p (arrOf st) (arrOf st')/\pendingOf st'=pendingOf st/\Fal C (arrOf st') p (p+x)/\q+1<=x /\
   ∀i,p+x - (q+1)<=i->i<p+x->kk C (arrOf st') i=kk C (arrOf st') (p+x - 1)) ?_ ?_ ⟨0,rfl,hB,bM.rfl',rfl,hs,by lia,fun i a b=>by congr 1;lia⟩
 ·rintro x c st' hx1 hx2 ⟨q,rfl,hB',hsm,hpd,hf,hq,he⟩;have hsz:p+x<=(arrOf st').size:=by rw[hB'.size];lia
  have grow:∀xs:Array Keyed,(∀i,kk C xs i=kk C (arrOf st') i)->O.kle (kk C (arrOf st') (p+x)) (kk C (arrOf st') (p+x - 1))->Fal C xs p (p+(x+1)):=by
   intro xs hk hle i j hi hij hj;rw[hk,hk];by_cases hjx:j<p+x
   ·exact hf i j hi hij hjx
   ·have e:j=p+x:=by lia
    subst e;by_cases hi':i=p+x
    ·subst hi';exact KeyOrd.kle_refl _
    ·exact KeyOrd.kle_trans hle (hf i (p+x - 1) hi (by lia) (by lia))
  dsimp only;refine wpS_bind (g6 hB' h0 (by lia) (by lia) ?_)
  cases hz:O.blt (kk C (arrOf st') (p+x)) (kk C (arrOf st') (p+x - 1)) with
  | true =>
   dsimp only;rw[qaf rfl];by_cases hq0:q>0
   ·rw[qaf hq0];refine wpS_bind (iq (wpS_pure ⟨0,rfl,hB'.arr (mirror_perm _ _ _ _),hsm.trans (dk hsz (by lia)),hpd,grow _ (ci hsz he) (KeyOrd.kle_of_klt hz),by lia,fun i a b=>by congr 1;lia⟩))
   ·rw[qai hq0];exact wpS_pure ⟨0,rfl,hB',hsm,hpd,grow _ (fun _=>rfl) (KeyOrd.kle_of_klt hz),by lia,fun i a b=>by congr 1;lia⟩
  | false =>
   dsimp only;rw[qai (by simp)];refine wpS_bind (g6 hB' h0 (by lia) (by lia) ?_)
   cases hz2:O.blt (kk C (arrOf st') (p+x - 1)) (kk C (arrOf st') (p+x)) with
   | true =>
    dsimp only;rw[qaf rfl];exact wpS_pure (h x q st' hB' hsm hpd hx1 (by lia) hf hq he)
   | false =>
    dsimp only;rw[qai (by simp)];have heq:kk C (arrOf st') (p+x)=kk C (arrOf st') (p+x - 1):=KeyOrd.kle_antisymm hz2 hz;refine wpS_pure ⟨q+1,rfl,hB',hsm,hpd,grow _ (fun _=>rfl) hz2,by lia,fun i a b=>?_⟩;have e1:p+(x+1) - 1=p+x:=by lia
    rw[e1];by_cases hix:i=p+x
    ·subst hix;rfl
    ·rw[heq];exact he i (by lia) (by lia)
 ·rintro c st' ⟨q,rfl,hB',hsm,hpd,hf,hq,he⟩;have e:max n nrem=nrem:=by lia
  rw[e] at hf hq he ⊢;exact h nrem q st' hB' hsm hpd hnn (qag _) hf hq he
theorem oj{p n nrem:Nat}{Q:Option Nat->SortSt->Prop}(h0:bJ C a₀)(hn:p+nrem<=a₀.size)(hnn:n+1<=nrem)(hB:SB kd a₀ st)(hs:Fal C (arrOf st) p (p+(n+1)))
  (h:∀m st',SB kd a₀ st'->bM p (arrOf st) (arrOf st')->pendingOf st'=pendingOf st->1<=m->m<=nrem->Srt C (arrOf st') p (p+m)->Q (some m) st') :
  wpS (model prog w) A E s (nN p n nrem) Q st:=by
 unfold nN;refine wpS_bind (wpS_lift (wpAny_rule ⟨rfl,?_⟩));refine wpS_bind (wps_dsc h0 hn (by lia) hnn hB hs fun m q st' hB' hsm hpd hm1 hm2 hf hq he=>?_);dsimp only;have hsz:p+m<=(arrOf st').size:=by rw[hB'.size];lia
 by_cases hq0:q>0
 ·rw[qaf hq0];refine wpS_bind (iq (oU h0 hn (by lia) hm2 (hB'.arr (mirror_perm _ _ _ _)) ?_ fun m2 st2 b1 b2 b3=>h m2 st2 b1 ((hsm.trans (dk hsz (by lia))).trans b2) (b3.trans hpd)));intro i j hi hij hj;show O.kle (kk C (mirror _ _ _ _) j) (kk C (mirror _ _ _ _) i);rw[ci hsz he,ci hsz he];exact hf i j hi hij hj
 ·rw[qai hq0];exact oU h0 hn (by lia) hm2 hB' hf fun m2 st2 b1 b2 b3=>h m2 st2 b1 (hsm.trans b2) (b3.trans hpd)
theorem oM(h0:bJ C a₀)(hn:p+nrem<=a₀.size)(h1:1<=nrem)(hB:SB kd a₀ st)
  (h:∀m st',SB kd a₀ st'->bM p (arrOf st) (arrOf st')->pendingOf st'=pendingOf st->1<=m->m<=nrem->Srt C (arrOf st') p (p+m)->Q (some m) st') :
  wpS (model prog w) A E s (countRun' p nrem) Q st:=by
 rw[run_eq];refine wpS_bind (oQ h0 hn (qag 1) h1 hB (fun i j hi hij hj=>by have e:i=j:=(by lia);subst e;exact KeyOrd.kle_refl _) fun n a1 a2 hsn hor=>?_);dsimp only;by_cases hnn:n=nrem
 ·rw[qaf (by simpa using hnn)];exact wpS_pure (h n st hB bM.rfl' rfl a1 a2 hsn)
 ·rw[qai (by simpa using hnn)];have hlt:=hor.resolve_left hnn;by_cases hgt:n>1
  ·rw[qaf hgt];refine wpS_bind (g6 hB h0 (by lia) (by lia) ?_)
   cases hz:O.blt (kk C (arrOf st) p) (kk C (arrOf st) (p+n - 1)) with
   | true =>
    dsimp only;rw[qaf rfl];exact wpS_pure (h n st hB bM.rfl' rfl a1 a2 hsn)
   | false =>
    dsimp only;rw[qai (by simp)];have hsz:p+n<=(arrOf st).size:=by rw[hB.size];lia
    have hall:∀q,p<=q->q<p+n->kk C (arrOf st) q=kk C (arrOf st) (p+n - 1):=fun q b1 b2 =>
     KeyOrd.kle_antisymm (hsn q (p+n - 1) b1 (by lia) (by lia)) (KeyOrd.kle_trans hz (hsn p q (qag _) b1 b2))
    refine wpS_bind (iq (oj h0 hn (by lia) (hB.arr (mirror_perm _ _ _ _)) ?_ fun m2 st2 b1 b2 b3=>h m2 st2 b1 ((dk hsz (qag _)).trans b2) b3));intro i j hi hij hj;show O.kle (kk C (mirror _ _ _ _) j) (kk C (mirror _ _ _ _) i);rw[ci hsz hall,ci hsz hall];by_cases hjn:j<p+n
    ·rw[hall i hi (by lia),hall j (by lia) hjn];exact KeyOrd.kle_refl _
    ·have e:j=p+n:=by lia
     subst e;by_cases hi':i=p+n
     ·subst hi';exact KeyOrd.kle_refl _
     ·rw[hall i hi (by lia)];exact KeyOrd.kle_of_klt hlt
  ·rw[qai hgt];have e:n=1:=by lia
   subst e;refine oj h0 hn (by lia) hB ?_ h;intro i j hi hij hj;by_cases hi':i=j
   ·subst hi';exact KeyOrd.kle_refl _
   ·have e1:i=p:=by lia
    have e2:j=p+1:=by lia
    subst e1;subst e2;exact KeyOrd.kle_of_klt hlt
end
section
variable {prog:Program} {w:World} {A:Around} {E:Value→Shared→Prop} {s:Shared} {kd:SortKind} {O:KeyOrd} {C:Cmp prog w A E s kd O} {a₀:Array Keyed} {st:SortSt}
theorem oV(h0:bJ C a₀)(hn:p+n<=a₀.size)(hok:ok<=n)(hB:SB kd a₀ st)(hs:Srt C (arrOf st) p (p+ok))
  (h:∀st',SB kd a₀ st'->bM p (arrOf st) (arrOf st')->pendingOf st'=pendingOf st->Srt C (arrOf st') p (p+n)->Q true st'):wpS (model prog w) A E s (binarySort' p n ok) Q st:=by
 rw[binarySort'_eq]
 refine wpS_bind (wpS_mono (wpS_forRange (I:=fun k c st'=>c=(none,())/\SB kd a₀ st'/\bM p (arrOf st) (arrOf st')/\pendingOf st'=pendingOf st/\Srt C (arrOf st') p (p+min k n))
  (Q:=fun c st'=>c=(none,())/\SB kd a₀ st'/\bM p (arrOf st) (arrOf st')/\pendingOf st'=pendingOf st/\Srt C (arrOf st') p (p+n)) ?_ ?_ ?_) ?_)
 ·rintro k c st' hk1 hk2 ⟨rfl,hB',hsm,hpd,hs'⟩;have ek:min k n=k:=by lia
  rw[ek] at hs'
  refine wpS_bind (wpS_mono (wpS_forRange (I:=fun x c st''=>st''=st'/\∃l r,c=(none,l,r)/\l<=r/\r<=k/\r - l<=k - x /\
    (∀i,p<=i->i<p+l->O.kle (kk C (arrOf st') i) (kk C (arrOf st') (p+k)))/\∀i,p+r<=i->i<p+k->O.klt (kk C (arrOf st') (p+k)) (kk C (arrOf st') i))
   (Q:=fun c st''=>st''=st'/\∃l r,c=(none,l,r)/\l<=k /\
    (∀i,p<=i->i<p+l->O.kle (kk C (arrOf st') i) (kk C (arrOf st') (p+k)))/\∀i,p+l<=i->i<p+k->O.klt (kk C (arrOf st') (p+k)) (kk C (arrOf st') i)) ?_ ?_ ?_) ?_)
  ·rintro x c st'' _ hx ⟨rfl,l,r,rfl,hlr,hrk,hm,hlo,hhi⟩;dsimp only;by_cases hge:l>=r
   ·rw[qaf hge];have e:l=r:=by lia
    subst e;exact wpS_pure ⟨rfl,l,l,rfl,hrk,hlo,hhi⟩
   ·rw[qai hge];refine wpS_bind (g6 hB' h0 (by lia) (by lia) ?_)
    cases hz:O.blt (kk C (arrOf st'') (p+k)) (kk C (arrOf st'') (p+(l+r) / 2)) with
    | true =>
     simp only[if_true];exact wpS_pure ⟨rfl,l,(l+r) / 2,rfl,by lia,by lia,by lia,hlo,fun i a b=>KeyOrd.klt_of_klt_of_kle hz (hs' _ _ (by lia) a b)⟩
    | false =>
     simp only[qam,if_false];exact wpS_pure ⟨rfl,(l+r) / 2+1,r,rfl,by lia,by lia,by lia,fun i a b=>KeyOrd.kle_trans (hs' i (p+(l+r) / 2) a (by lia) (by lia)) hz,hhi⟩
  ·rintro c st'' ⟨rfl,l,r,rfl,hlr,hrk,hm,hlo,hhi⟩;have e:l=r:=by lia
   subst e;exact⟨rfl,l,l,rfl,hrk,hlo,hhi⟩
  ·exact⟨rfl,0,k,rfl,by lia,by lia,by lia,fun i a b=>by lia,fun i a b=>by lia⟩
  ·rintro c st'' ⟨rfl,l,r,rfl,hlk,hlo,hhi⟩;dsimp only;rw[moveDown'_eq];have hks:p+k<(arrOf st'').size:=by rw[hB'.size];lia
   have ed:p+k - (p+l)=k - l:=by lia
   rw[ed];refine wpS_bind (wpS_modify (wpS_pure ⟨rfl,hB'.arr (bubble_perm _ _ _),hsm.trans (oI hks (by lia) (by lia)),hpd,?_⟩));have e1:min (k+1) n=k+1:=by lia
   rw[e1];intro i j hi hij hj;show O.kle (kk C (bubble (arrOf st'') (p+k) (k - l)) i) (kk C (bubble (arrOf st'') (p+k) (k - l)) j);have e2:p+k - (k - l)=p+l:=by lia
   rw[lr hks (by lia),lr hks (by lia),e2]
   repeat' split
   all_goals first
    | (exfalso;lia)
    | exact KeyOrd.kle_refl _
    | exact hlo _ (by lia) (by lia)
    | exact KeyOrd.kle_of_klt (hhi _ (by lia) (by lia))
    | exact hs' _ _ (by lia) (by lia) (by lia)
 ·rintro c st' ⟨hc,hB',hsm,hpd,hs'⟩;refine⟨hc,hB',hsm,hpd,?_⟩;have e:min (max (max ok 1) n) n=n:=by lia
  rwa [e] at hs'
 ·refine⟨rfl,hB,bM.rfl',rfl,fun i j hi hij hj=>?_⟩;by_cases h1:ok=0
  ·have e:i=j:=by lia
   subst e;exact KeyOrd.kle_refl _
  ·exact hs i j hi hij (by lia)
 ·rintro c st' ⟨rfl,hB',hsm,hpd,hs'⟩;exact wpS_pure (h st' hB' hsm hpd hs')
def gallop':Bool->Keyed->Array Keyed->Nat->Nat->Nat->StateT SortSt Sem (Option Nat):=sortPriv% PySem.Builtin.gallop
def iR(left:Bool)(key:Keyed)(arr:Array Keyed)(base i:Nat):StateT SortSt Sem (Option Bool):=do
 let x <-elem' arr (base+i)
 if left then lt' x key else return (<-lt' key x).map (!·)
theorem qR(left:Bool)(key:Keyed)(arr:Array Keyed)(base n hint:Nat):gallop' left key arr base n hint=(do
  let mut la:=0
  let mut of:=1
  let mut lo:=0
  let mut hi:=0
  let some rt <-iR left key arr base hint|return none
  if rt then
   let mx:=n - hint
   for _ in [0:n] do
    if of>=mx then break
    let some q <-iR left key arr base (hint+of)|return none
    if !q then break
    la:=of
    of:=2 * of+1
   lo:=hint+la+1
   hi:=hint+min of mx
  else
   let mx:=hint+1
   for _ in [0:n] do
    if of>=mx then break
    let some q <-iR left key arr base (hint - of)|return none
    if q then break
    la:=of
    of:=2 * of+1
   lo:=hint+1 - min of mx
   hi:=hint - la
  for _ in [0:n] do
   if lo>=hi then break
   let m:=lo+(hi - lo) / 2
   let some q <-iR left key arr base m|return none
   if q then lo:=m+1 else hi:=m
  return some hi):=rfl
def ahead(C:Cmp prog w A E s kd O)(left:Bool)(key:Keyed)(arr:Array Keyed)(i:Nat):Bool:=if left then O.blt (kk C arr i) (C.key key) else !O.blt (C.key key) (kk C arr i)
theorem iG(hk:kindOf st=kd)(hg:bJ C arr)(hkey:C.good key)(hi:base+i<arr.size)
  (h:Q (some (ahead C left key arr (base+i))) st):wpS (model prog w) A E s (iR left key arr base i) Q st:=by
 unfold iR;refine wpS_bind (aM hi fun x hx=>?_);unfold ahead at h;rw[aJ hx] at h
 cases left with
 | true =>
  simp only[if_true] at h ⊢;exact C.ask x key st Q (bc hg hx) hkey hk h
 | false =>
  simp only[qam,if_false] at h ⊢;exact wpS_bind (C.ask key x st _ hkey (bc hg hx) hk (wpS_pure h))
def halfL(left:Bool)(key:Keyed)(arr:Array Keyed)(base n lo hi:Nat):StateT SortSt Sem DS :=
 forIn [:n] ((none,lo,hi):DS) fun _ c =>
  if c.2.1>=c.2.2 then pure (ForInStep.done (none,c.2.1,c.2.2))
  else do
   let q <-iR left key arr base (c.2.1+(c.2.2 - c.2.1) / 2)
   match q with
   | some q=>if q=true then pure (ForInStep.yield (none,c.2.1+(c.2.2 - c.2.1) / 2+1,c.2.2)) else pure (ForInStep.yield (none,c.2.1,c.2.1+(c.2.2 - c.2.1) / 2))
   | _=>pure (ForInStep.done (some none,c.2.1,c.2.2))
section
variable {left:Bool} {key:Keyed} {arr:Array Keyed} {base n:Nat}
theorem dM(hn:base+n<=arr.size)(hs:Srt C arr base (base+n)):∀i j,i<=j->j<n->ahead C left key arr (base+j)=true->ahead C left key arr (base+i)=true:=by
 intro i j hij hj;have hle:=hs (base+i) (base+j) (by lia) (by lia) (by lia);unfold ahead
 cases left with
 | true=>simp only[if_true];exact fun q=>KeyOrd.klt_of_kle_of_klt hle q
 | false =>
  simp only[qam,if_false,qbp];exact fun q=>KeyOrd.kle_trans hle q
theorem gq(hn:base+n<=arr.size)(hs:Srt C arr base (base+n)):∀i j,i<=j->j<n->ahead C left key arr (base+i)=false->ahead C left key arr (base+j)=false:=by
 intro i j hij hj hi
 cases hj':ahead C left key arr (base+j) with
 | false=>rfl
 | true=>rw[dM hn hs i j hij hj hj'] at hi;cases hi
theorem m8{lo hi:Nat}{Q:DS->SortSt->Prop}(hk:kindOf st=kd)(hg:bJ C arr)(hkey:C.good key)(hn:base+n<=arr.size)(hs:Srt C arr base (base+n))
  (hlh:lo<=hi) (hhn:hi<=n) (h1:∀i,i<lo->ahead C left key arr (base+i)=true) (h2:∀i,hi<=i->i<n->ahead C left key arr (base+i)=false)
  (h:∀k,k<=n->(∀i,i<k->ahead C left key arr (base+i)=true)->(∀i,k<=i->i<n->ahead C left key arr (base+i)=false)->Q (none,k,k) st) :
  wpS (model prog w) A E s (halfL left key arr base n lo hi) Q st:=by
 unfold halfL;refine wpS_forRange (I:=fun x c st'=>st'=st/\∃l r,c=(none,l,r)/\l<=r/\r<=n/\r - l<=n - x/\(∀i,i<l->ahead C left key arr (base+i)=true)/\∀i,r<=i->i<n->ahead C left key arr (base+i)=false)
  ?_ ?_ ⟨rfl,lo,hi,rfl,hlh,hhn,by lia,h1,h2⟩
 ·rintro x c st' _ hx ⟨rfl,l,r,rfl,hlr,hrn,hm,ha,hb⟩;dsimp only;by_cases hge:l>=r
  ·rw[qaf hge];have e:l=r:=by lia
   subst e;exact wpS_pure (h l hrn ha hb)
  ·rw[qai hge];refine wpS_bind (iG hk hg hkey (by lia) ?_)
   cases hz:ahead C left key arr (base+(l+(r - l) / 2)) with
   | true =>
    simp only[if_true];exact wpS_pure ⟨rfl,_,_,rfl,by lia,by lia,by lia,fun i hi=>dM hn hs i (l+(r - l) / 2) (by lia) (by lia) hz,hb⟩
   | false =>
    simp only[qam,if_false];exact wpS_pure ⟨rfl,_,_,rfl,by lia,by lia,by lia,ha,fun i a b=>gq hn hs (l+(r - l) / 2) i a b hz⟩
 ·rintro c st' ⟨rfl,l,r,rfl,hlr,hrn,hm,ha,hb⟩;have e:l=r:=by lia
  subst e;exact h l hrn ha hb
theorem cx{hint:Nat}{Q:Option Nat->SortSt->Prop}(hk:kindOf st=kd)(hg:bJ C arr)(hkey:C.good key)(hn:base+n<=arr.size)(hh:hint<n)(hs:Srt C arr base (base+n))
  (h:∀k,k<=n->(∀i,i<k->ahead C left key arr (base+i)=true)->(∀i,k<=i->i<n->ahead C left key arr (base+i)=false)->Q (some k) st) :
  wpS (model prog w) A E s (gallop' left key arr base n hint) Q st:=by
 rw[qR];dsimp only;refine wpS_bind (iG hk hg hkey (by lia) ?_);dsimp only
 cases hz:ahead C left key arr (base+hint) with
 | true =>
  simp only[if_true]
  refine wpS_bind (wpS_mono (wpS_forRange (I:=fun x c st'=>st'=st/\∃la of,c=(none,la,of)/\la<of/\x+1<=of/\hint+la<n/\ahead C left key arr (base+(hint+la))=true)
   (Q:=fun c st'=>st'=st/\∃la of,c=(none,la,of)/\la<of/\hint+la<n/\ahead C left key arr (base+(hint+la))=true/\(n - hint<=of\/of<n - hint/\ahead C left key arr (base+(hint+of))=false)) ?_ ?_
    ⟨rfl,0,1,rfl,by lia,by lia,hh,hz⟩) ?_)
  ·rintro x c st' _ hx ⟨rfl,la,of,rfl,h1,h2,h3,h4⟩;dsimp only;by_cases hge:of>=n - hint
   ·rw[qaf hge];exact wpS_pure ⟨rfl,la,of,rfl,h1,h3,h4,.inl hge⟩
   ·rw[qai hge];refine wpS_bind (iG hk hg hkey (by lia) ?_)
    cases hy:ahead C left key arr (base+(hint+of)) with
    | true =>
     simp only[qbr,qam,if_false];exact wpS_pure ⟨rfl,_,_,rfl,by lia,by lia,by lia,hy⟩
    | false =>
     simp only[Bool.not_false,if_true];exact wpS_pure ⟨rfl,la,of,rfl,h1,h3,h4,.inr ⟨by lia,hy⟩⟩
  ·rintro c st' ⟨rfl,la,of,rfl,h1,h2,h3,h4⟩;exact⟨rfl,la,of,rfl,h1,h3,h4,.inl (by lia)⟩
  ·rintro c st' ⟨rfl,la,of,rfl,h1,h3,h4,h5⟩;dsimp only;refine wpS_bind (m8 (lo:=hint+la+1) (hi:=hint+min of (n - hint)) hk hg hkey hn hs (by lia) (by lia) (fun i hi=>dM hn hs i (hint+la) (by lia) h3 h4) (fun i a b=>?_) fun k a b c=>wpS_pure (h k a b c));rcases h5 with h5|⟨h5,h6⟩
   ·lia
   ·exact gq hn hs (hint+of) i (by lia) b h6
 | false =>
  simp only[qam,if_false]
  refine wpS_bind (wpS_mono (wpS_forRange (I:=fun x c st'=>st'=st/\∃la of,c=(none,la,of)/\la<of/\x+1<=of/\la<=hint/\ahead C left key arr (base+(hint - la))=false)
   (Q:=fun c st'=>st'=st/\∃la of,c=(none,la,of)/\la<of/\la<=hint/\ahead C left key arr (base+(hint - la))=false/\(hint+1<=of\/of<hint+1/\ahead C left key arr (base+(hint - of))=true)) ?_ ?_
    ⟨rfl,0,1,rfl,by lia,by lia,by lia,hz⟩) ?_)
  ·rintro x c st' _ hx ⟨rfl,la,of,rfl,h1,h2,h3,h4⟩;dsimp only;by_cases hge:of>=hint+1
   ·rw[qaf hge];exact wpS_pure ⟨rfl,la,of,rfl,h1,h3,h4,.inl hge⟩
   ·rw[qai hge];refine wpS_bind (iG hk hg hkey (by lia) ?_)
    cases hy:ahead C left key arr (base+(hint - of)) with
    | true =>
     simp only[if_true];exact wpS_pure ⟨rfl,la,of,rfl,h1,h3,h4,.inr ⟨by lia,hy⟩⟩
    | false =>
     simp only[qam,if_false];exact wpS_pure ⟨rfl,_,_,rfl,by lia,by lia,by lia,hy⟩
  ·rintro c st' ⟨rfl,la,of,rfl,h1,h2,h3,h4⟩;exact⟨rfl,la,of,rfl,h1,h3,h4,.inl (by lia)⟩
  ·rintro c st' ⟨rfl,la,of,rfl,h1,h3,h4,h5⟩;dsimp only;refine wpS_bind (m8 (lo:=hint+1 - min of (hint+1)) (hi:=hint - la) hk hg hkey hn hs (by lia) (by lia) (fun i hi=>?_) (fun i a b=>gq hn hs (hint - la) i a b h4) fun k a b c=>wpS_pure (h k a b c));rcases h5 with h5|⟨h5,h6⟩
   ·lia
   ·exact dM hn hs i (hint - of) (by lia) (by lia) h6
end
end
def fT:Array Keyed->Array Keyed->StateT SortSt Sem (Array Keyed):=sortPriv% PySem.Builtin.mergeLo
def gj:Nat->StateT SortSt Sem Unit:=sortPriv% PySem.Builtin.setMinGallop
theorem iF(g:Nat):gj g=modify fun s=>SortSt.mk' (kindOf s) (arrOf s) (pendingOf s) g (failedOf s):=rfl
theorem oz(a b:Array Keyed):fT a b=(do
 rule "list.sort.merge-lo"
 let tot:=a.size+b.size
 let all (ou:Array Keyed) (i j:Nat):=ou++a.extract i a.size++b.extract j b.size
 let one (ou:Array Keyed) (i j:Nat):=ou++b.extract j b.size++a.extract i a.size
 let mut ou:Array Keyed:=#[<-elem' b 0]
 let mut i:=0
 let mut j:=1
 if j == b.size then return all ou i j
 if i+1 == a.size then return one ou i j
 let mut g:=gallopOf (<-get)
 for _ in [0:tot] do
  let mut na:=0
  let mut nb:=0
  for _ in [0:tot] do
   let some q <-lt' (<-elem' b j) (<-elem' a i)|return all ou i j
   if q then
    ou:=ou.push (<-elem' b j);j:=j+1;nb:=nb+1;na:=0
    if j == b.size then return all ou i j
    if nb>=g then break
   else
    ou:=ou.push (<-elem' a i);i:=i+1;na:=na+1;nb:=0
    if i+1 == a.size then return one ou i j
    if na>=g then break
  rule "list.sort.gallop"
  g:=g+1
  for _ in [0:tot] do
   if g>1 then g:=g - 1
   gj g
   let some k <-gallop' false (<-elem' b j) a i (a.size - i) 0|return all ou i j
   na:=k
   if k>0 then
    ou:=ou++a.extract i (i+k);i:=i+k
    if i+1 == a.size then return one ou i j
    if i == a.size then return all ou i j
   ou:=ou.push (<-elem' b j);j:=j+1
   if j == b.size then return all ou i j
   let some k <-gallop' true (<-elem' a i) b j (b.size - j) 0|return all ou i j
   nb:=k
   if k>0 then
    ou:=ou++b.extract j (j+k);j:=j+k
    if j == b.size then return all ou i j
   ou:=ou.push (<-elem' a i);i:=i+1
   if i+1 == a.size then return one ou i j
   if na<7 && nb<7 then break
  g:=g+1
  gj g
 unsupported "internal:list.sort.merge-bound"):=rfl
section
variable {prog:Program} {w:World} {A:Around} {E:Value→Shared→Prop} {s:Shared} {kd:SortKind} {O:KeyOrd} (C:Cmp prog w A E s kd O)
def LS(l:List Keyed):Prop:=l.Pairwise fun x y=>O.kle (C.key x) (C.key y)
def LB(l m:List Keyed):Prop:=∀x∈l,∀y∈m,O.kle (C.key x) (C.key y)
variable {C}
theorem bC(h1:LS C l)(h2:LS C m)(h3:LB C l m):LS C (l++m):=by
 unfold LS;rw[List.pairwise_append];exact⟨h1,h2,h3⟩
theorem jS{xs:Array Keyed}{lo hi:Nat}(hhi:hi<=xs.size)(h:Srt C xs lo hi):LS C (xs.extract lo hi).toList:=by
 unfold LS;rw[qbA];intro i j hi' hj' hij;have hsz:(xs.extract lo hi).size=hi - lo:=by simp;lia
 have hi2:i<(xs.extract lo hi).size:=by rw[<-qaR];exact hi'
 have hj2:j<(xs.extract lo hi).size:=by rw[<-qaR];exact hj'
 have e1:(xs.extract lo hi).toList[i]=xs[lo+i]'(by lia):=by simp
 have e2:(xs.extract lo hi).toList[j]=xs[lo+j]'(by lia):=by simp
 rw[e1,e2]
 have:=h (lo+i) (lo+j) (by lia) (by lia) (by lia)
 rw[aJ (getElem?_pos xs (lo+i) (by lia)),aJ (getElem?_pos xs (lo+j) (by lia))] at this;exact this
theorem hV(h:LS C xs.toList):Srt C xs 0 xs.size:=by
 intro i j _ hij hj;rw[aJ (getElem?_pos xs i (by lia)),aJ (getElem?_pos xs j hj)];by_cases e:i=j
 ·subst e;exact KeyOrd.kle_refl _
 ·unfold LS at h;rw[qbA] at h
  have:=h i j (by simp;lia) (by simpa using hj) (by lia)
  simpa using this
structure MI (C:Cmp prog w A E s kd O) (a b ou:Array Keyed) (i j:Nat):Prop where
 perm:(ou.toList++(a.toList.drop i++b.toList.drop j)).Perm (a.toList++b.toList)
 srt:LS C ou.toList
 low:LB C ou.toList (a.toList.drop i++b.toList.drop j)
variable {a b ou:Array Keyed} {i j:Nat}
theorem MI.size(m:MI C a b ou i j)(hi:i<=a.size)(hj:j<=b.size):ou.size+(a.size - i)+(b.size - j)=a.size+b.size:=by
 have:=m.perm.length_eq
 simp at this;lia
theorem fx{xs:Array Keyed}{i:Nat}{p:Keyed}(h:xs[i]?=some p):xs.toList.drop i=p::xs.toList.drop (i+1):=by
 have hl:i<xs.toList.length:=by
  have:=(qaU.mp h).1
  simpa using this
 have e:xs.toList[i]=p:=by
  have:=(qaU.mp h).2
  simpa using this
 rw[<-e,List.getElem_cons_drop hl]
theorem fv{xs:Array Keyed}(h:LS C xs.toList)(i:Nat):LS C (xs.toList.drop i):=h.sublist (List.drop_sublist i _)
theorem fM{xs:Array Keyed}(h:LS C xs.toList){i:Nat}{p:Keyed}(hp:xs[i]?=some p):∀y∈xs.toList.drop i,O.kle (C.key p) (C.key y):=by
 have h1:=fv h i;rw[fx hp] at h1 ⊢;unfold LS at h1;rw[qcd] at h1;intro y hy;rcases qan.mp hy with rfl|hy
 ·exact KeyOrd.kle_refl _
 ·exact h1.1 y hy
theorem MI.pushA(m:MI C a b ou i j)(ha:LS C a.toList)(hb:LS C b.toList){p:Keyed}(hp:a[i]?=some p)(hq:∀q,b[j]?=some q->O.kle (C.key p) (C.key q)):MI C a b (ou.push p) (i+1) j:=by
 have hd:=fx hp;have hle:∀y∈a.toList.drop i++b.toList.drop j,O.kle (C.key p) (C.key y):=by
  intro y hy;rcases qav.mp hy with hy|hy
  ·exact fM ha hp y hy
  ·cases hb':b[j]? with
   | none =>
    have:b.toList.drop j=[]:=qbd (by have:=qcc.mp hb';simpa using this)
    rw[this] at hy;cases hy
   | some q=>exact KeyOrd.kle_trans (hq q hb') (fM hb hb' y hy)
 refine⟨?_,?_,?_⟩
 ·have:=m.perm
  rw[hd] at this;rw[qaY,qaX];exact this
 ·rw[qaY];refine bC m.srt (by unfold LS;simp) fun x hx y hy=>?_
  have:y=p:=by simpa using hy
  subst this;exact m.low x hx y (qay _ (by rw[hd];exact qaH))
 ·intro x hx y hy;rw[qaY] at hx;have hy':y∈a.toList.drop i++b.toList.drop j:=by
   rcases qav.mp hy with hy|hy
   ·exact qay _ (by rw[hd];exact qak _ hy)
   ·exact qac _ hy
  rcases qav.mp hx with hx|hx
  ·exact m.low x hx y hy'
  ·have:x=p:=by simpa using hx
   subst this;exact hle y hy'
theorem MI.pushB(m:MI C a b ou i j)(ha:LS C a.toList)(hb:LS C b.toList){p:Keyed}(hp:b[j]?=some p)(hq:∀q,a[i]?=some q->O.kle (C.key p) (C.key q)):MI C a b (ou.push p) i (j+1):=by
 have hd:=fx hp;have hle:∀y∈a.toList.drop i++b.toList.drop j,O.kle (C.key p) (C.key y):=by
  intro y hy;rcases qav.mp hy with hy|hy
  ·cases ha':a[i]? with
   | none =>
    have:a.toList.drop i=[]:=qbd (by have:=qcc.mp ha';simpa using this)
    rw[this] at hy;cases hy
   | some q=>exact KeyOrd.kle_trans (hq q ha') (fM ha ha' y hy)
  ·exact fM hb hp y hy
 refine⟨?_,?_,?_⟩
 ·have:=m.perm
  rw[hd] at this;rw[qaY,qaX];refine List.Perm.trans (List.Perm.append_left _ ?_) this;show (p::(a.toList.drop i++b.toList.drop (j+1))).Perm _;exact qbD.symm
 ·rw[qaY];refine bC m.srt (by unfold LS;simp) fun x hx y hy=>?_
  have:y=p:=by simpa using hy
  subst this;exact m.low x hx y (qac _ (by rw[hd];exact qaH))
 ·intro x hx y hy;rw[qaY] at hx;have hy':y∈a.toList.drop i++b.toList.drop j:=by
   rcases qav.mp hy with hy|hy
   ·exact qay _ hy
   ·exact qac _ (by rw[hd];exact qak _ hy)
  rcases qav.mp hx with hx|hx
  ·exact m.low x hx y hy'
  ·have:x=p:=by simpa using hx
   subst this;exact hle y hy'
theorem gJ{xs:Array Keyed}{i k:Nat}{p:Keyed}(h:xs[i+k]?=some p):xs.extract i (i+(k+1))=(xs.extract i (i+k)).push p:=by
 have hl:=(qaU.mp h).1;apply qaS.mp;simp only[qbn,qaY,qaD];have e1:i+(k+1) - i=k+1:=by lia
 have e2:i+k - i=k:=by lia
 rw[e1,e2,List.take_succ,qce,qaF,h];rfl
theorem MI.moveA(m:MI C a b ou i j)(ha:LS C a.toList)(hb:LS C b.toList):∀k,i+k<=a.size->(∀r p q,r<k->a[i+r]?=some p->b[j]?=some q->O.kle (C.key p) (C.key q))->MI C a b (ou++a.extract i (i+k)) (i+k) j:=by
 intro k
 induction k with
 | zero =>
  intro _ _;have e:ou++a.extract i (i+0)=ou:=by apply qaS.mp;simp[qaD]
  rw[e];exact m
 | succ k ih =>
  intro hk hq;have hp:a[i+k]?=some (a[i+k]'(by lia)):=getElem?_pos a (i+k) (by lia);have m1:=(ih (by lia) fun r p q hr=>hq r p q (by lia)).pushA ha hb hp (fun q hq'=>hq k _ q (by lia) hp hq');have e:ou++(a.extract i (i+k)).push (a[i+k]'(by lia))=(ou++a.extract i (i+k)).push (a[i+k]'(by lia)):=by apply qaS.mp;simp
  rw[gJ hp,e];exact m1
theorem MI.moveB(m:MI C a b ou i j)(ha:LS C a.toList)(hb:LS C b.toList):∀k,j+k<=b.size->(∀r p q,r<k->b[j+r]?=some p->a[i]?=some q->O.kle (C.key p) (C.key q))->MI C a b (ou++b.extract j (j+k)) i (j+k):=by
 intro k
 induction k with
 | zero =>
  intro _ _;have e:ou++b.extract j (j+0)=ou:=by apply qaS.mp;simp[qaD]
  rw[e];exact m
 | succ k ih =>
  intro hk hq;have hp:b[j+k]?=some (b[j+k]'(by lia)):=getElem?_pos b (j+k) (by lia);have m1:=(ih (by lia) fun r p q hr=>hq r p q (by lia)).pushB ha hb hp (fun q hq'=>hq k _ q (by lia) hp hq');have e:ou++(b.extract j (j+k)).push (b[j+k]'(by lia))=(ou++b.extract j (j+k)).push (b[j+k]'(by lia)):=by apply qaS.mp;simp
  rw[gJ hp,e];exact m1
def MR(C:Cmp prog w A E s kd O)(a b out:Array Keyed):Prop:=out.toList.Perm (a.toList++b.toList)/\LS C out.toList
theorem eJ{xs:Array Keyed}{i:Nat}:(xs.extract i xs.size).toList=xs.toList.drop i:=by
 rw[qbn,qaD];exact qaW (by simp)
theorem MI.all(m:MI C a b ou i j)(ha:LS C a.toList)(hb:LS C b.toList)(h:a.size<=i\/b.size<=j):MR C a b (ou++a.extract i a.size++b.extract j b.size):=by
 have e:(ou++a.extract i a.size++b.extract j b.size).toList=ou.toList++(a.toList.drop i++b.toList.drop j):=by
  rw[qaP,qaP,eJ,eJ,qaX]
 unfold MR;rw[e];refine⟨m.perm,bC m.srt ?_ m.low⟩;rcases h with h|h
 ·have:a.toList.drop i=[]:=qbd (by simpa using h)
  rw[this];exact fv hb j
 ·have:b.toList.drop j=[]:=qbd (by simpa using h)
  rw[this,qbJ];exact fv ha i
theorem MI.one(m:MI C a b ou i j)(ha:LS C a.toList)(hb:LS C b.toList)(h:i+1=a.size)(hl:∀x q,x∈b.toList->a[i]?=some q->O.kle (C.key x) (C.key q)):MR C a b (ou++b.extract j b.size++a.extract i a.size):=by
 have e:(ou++b.extract j b.size++a.extract i a.size).toList=ou.toList++(b.toList.drop j++a.toList.drop i):=by
  rw[qaP,qaP,eJ,eJ,qaX]
 unfold MR;rw[e];have hp:a[i]?=some (a[i]'(by lia)):=getElem?_pos a i (by lia);have hd:=fx hp;have hnil:a.toList.drop (i+1)=[]:=qbd (by simp;lia);rw[hnil] at hd;refine⟨(List.Perm.append_left _ qct).trans m.perm,bC m.srt (bC (fv hb j) (fv ha i) ?_) ?_⟩
 ·intro x hx y hy;rw[hd] at hy
  have:y=a[i]'(by lia):=by simpa using hy
  subst this;exact hl x _ (List.mem_of_mem_drop hx) hp
 ·intro x hx y hy;exact m.low x hx y (qav.mpr (qav.mp hy).symm)
end
structure Eqv (st st':SortSt):Prop where
 kind:kindOf st'=kindOf st
 arr:arrOf st'=arrOf st
 pend:pendingOf st'=pendingOf st
 failed:failedOf st'=failedOf st
theorem Eqv.rfl'{st:SortSt}:Eqv st st:=⟨rfl,rfl,rfl,rfl⟩
theorem Eqv.trans{st st1 st2:SortSt}(x:Eqv st st1)(y:Eqv st1 st2):Eqv st st2:=⟨y.kind.trans x.kind,y.arr.trans x.arr,y.pend.trans x.pend,y.failed.trans x.failed⟩
abbrev GS:=Option (Array Keyed) × Array Keyed × Nat × Nat × Nat × Nat × Nat
def loT3(a b ou:Array Keyed)(i j g na nb:Nat):StateT SortSt Sem (ForInStep GS):=do
 let x <-elem' a i
 if (i+1+1 == a.size)=true then pure (ForInStep.done (some (ou.push x++b.extract j b.size++a.extract (i+1) a.size),ou.push x,i+1,j,g,na,nb))
 else if (decide (na<7) && decide (nb<7))=true then pure (ForInStep.done (none,ou.push x,i+1,j,g,na,nb))
 else pure (ForInStep.yield (none,ou.push x,i+1,j,g,na,nb))
def loT2(a b ou:Array Keyed)(i j g na nb:Nat):StateT SortSt Sem (ForInStep GS):=do
 let x <-elem' b j
 if (j+1 == b.size)=true then pure (ForInStep.done (some (ou.push x++a.extract i a.size++b.extract (j+1) b.size),ou.push x,i,j+1,g,na,nb))
 else do
  let y <-elem' a i
  let q <-gallop' true y b (j+1) (b.size - (j+1)) 0
  match q with
  | some k =>
   if k>0 then
    if (j+1+k == b.size)=true then
     pure (ForInStep.done (some (ou.push x++b.extract (j+1) (j+1+k)++a.extract i a.size++b.extract (j+1+k) b.size),ou.push x++b.extract (j+1) (j+1+k),i,j+1+k,g,na,k))
    else loT3 a b (ou.push x++b.extract (j+1) (j+1+k)) i (j+1+k) g na k
   else loT3 a b (ou.push x) i (j+1) g na k
  | _=>pure (ForInStep.done (some (ou.push x++a.extract i a.size++b.extract (j+1) b.size),ou.push x,i,j+1,g,na,nb))
def loT1(a b ou:Array Keyed)(i j g na nb:Nat):StateT SortSt Sem (ForInStep GS):=do
 gj g
 let x <-elem' b j
 let q <-gallop' false x a i (a.size - i) 0
 match q with
 | some k =>
  if k>0 then
   if (i+k+1 == a.size)=true then
    pure (ForInStep.done (some (ou++a.extract i (i+k)++b.extract j b.size++a.extract (i+k) a.size),ou++a.extract i (i+k),i+k,j,g,k,nb))
   else if (i+k == a.size)=true then
    pure (ForInStep.done (some (ou++a.extract i (i+k)++a.extract (i+k) a.size++b.extract j b.size),ou++a.extract i (i+k),i+k,j,g,k,nb))
   else loT2 a b (ou++a.extract i (i+k)) (i+k) j g k nb
  else loT2 a b ou i j g k nb
 | _=>pure (ForInStep.done (some (ou++a.extract i a.size++b.extract j b.size),ou,i,j,g,na,nb))
abbrev LBt:=Option (Array Keyed) × Array Keyed × Nat × Nat × Nat × Nat
abbrev LCt:=Option (Array Keyed) × Array Keyed × Nat × Nat × Nat
def loP(a b:Array Keyed)(g:Nat)(c:LBt):StateT SortSt Sem (ForInStep LBt):=do
 let x <-elem' b c.2.2.2.1
 let y <-elem' a c.2.2.1
 let q <-lt' x y
 match q with
 | some q =>
  if q=true then do
   let z <-elem' b c.2.2.2.1
   if (c.2.2.2.1+1 == b.size)=true then pure (ForInStep.done (some (c.2.1.push z++a.extract c.2.2.1 a.size++b.extract (c.2.2.2.1+1) b.size),c.2.1.push z,c.2.2.1,c.2.2.2.1+1,0,c.2.2.2.2.2+1))
   else if c.2.2.2.2.2+1>=g then pure (ForInStep.done (none,c.2.1.push z,c.2.2.1,c.2.2.2.1+1,0,c.2.2.2.2.2+1))
   else pure (ForInStep.yield (none,c.2.1.push z,c.2.2.1,c.2.2.2.1+1,0,c.2.2.2.2.2+1))
  else do
   let z <-elem' a c.2.2.1
   if (c.2.2.1+1+1 == a.size)=true then pure (ForInStep.done (some (c.2.1.push z++b.extract c.2.2.2.1 b.size++a.extract (c.2.2.1+1) a.size),c.2.1.push z,c.2.2.1+1,c.2.2.2.1,c.2.2.2.2.1+1,0))
   else if c.2.2.2.2.1+1>=g then pure (ForInStep.done (none,c.2.1.push z,c.2.2.1+1,c.2.2.2.1,c.2.2.2.2.1+1,0))
   else pure (ForInStep.yield (none,c.2.1.push z,c.2.2.1+1,c.2.2.2.1,c.2.2.2.2.1+1,0))
 | _=>pure (ForInStep.done (some (c.2.1++a.extract c.2.2.1 a.size++b.extract c.2.2.2.1 b.size),c.2.1,c.2.2.1,c.2.2.2.1,c.2.2.2.2.1,c.2.2.2.2.2))
def loG(a b:Array Keyed)(c:GS):StateT SortSt Sem (ForInStep GS) :=
 if c.2.2.2.2.1>1 then loT1 a b c.2.1 c.2.2.1 c.2.2.2.1 (c.2.2.2.2.1 - 1) c.2.2.2.2.2.1 c.2.2.2.2.2.2
 else loT1 a b c.2.1 c.2.2.1 c.2.2.2.1 c.2.2.2.2.1 c.2.2.2.2.2.1 c.2.2.2.2.2.2
def loE(c:GS):StateT SortSt Sem (ForInStep LCt) :=
 match c.1 with
 | some r=>pure (ForInStep.done (some r,c.2.1,c.2.2.1,c.2.2.2.1,c.2.2.2.2.1))
 | none=>do
  gj (c.2.2.2.2.1+1)
  pure (ForInStep.yield (none,c.2.1,c.2.2.1,c.2.2.2.1,c.2.2.2.2.1+1))
def loD(a b:Array Keyed)(g:Nat)(c:LBt):StateT SortSt Sem (ForInStep LCt) :=
 match c.1 with
 | some r=>pure (ForInStep.done (some r,c.2.1,c.2.2.1,c.2.2.2.1,g))
 | none=>do
  liftM (rule "list.sort.gallop")
  let e <-forIn [:a.size+b.size] ((none,c.2.1,c.2.2.1,c.2.2.2.1,g+1,c.2.2.2.2.1,c.2.2.2.2.2):GS) fun _ e=>loG a b e
  loE e
def loO(a b:Array Keyed)(c:LCt):StateT SortSt Sem (ForInStep LCt):=do
 let d <-forIn [:a.size+b.size] ((none,c.2.1,c.2.2.1,c.2.2.2.1,0,0):LBt) fun _ d=>loP a b c.2.2.2.2 d
 loD a b c.2.2.2.2 d
def loZ(a b:Array Keyed)(x:Keyed):StateT SortSt Sem (Array Keyed):=do
 let g <-get
 let r <-forIn [:a.size+b.size] ((none,#[x],0,1,gallopOf g):LCt) fun _ c=>loO a b c
 match r.1 with
 | some r=>pure r
 | none=>liftM (unsupported "internal:list.sort.merge-bound":Sem (Array Keyed))
theorem lo_n(a b:Array Keyed):fT a b=(do
 liftM (rule "list.sort.merge-lo")
 let x <-elem' b 0
 if (1 == b.size)=true then pure (#[x]++a.extract 0 a.size++b.extract 1 b.size)
 else if (0+1 == a.size)=true then pure (#[x]++b.extract 1 b.size++a.extract 0 a.size)
 else loZ a b x):=by
 rw[oz];dsimp only;refine congrArg (Bind.bind _) (funext fun _=>congrArg (Bind.bind _) (funext fun x=>congrArg (fun z=>ite _ _ (ite _ _ z)) ?_));unfold loZ;have e:∀{α β:Type} {x y:StateT SortSt Sem α} {f h:α->StateT SortSt Sem β},x=y->(∀a,f a=h a)->(x >>= f)=(y >>= h):=fun e f=>by rw[e,funext f]
 refine congrArg (Bind.bind _) (funext fun g=>e (congrArg (forIn _ _) (funext fun _=>funext fun c=>?_)) fun ⟨r,_⟩=>by cases r <;> rfl);refine e rfl fun d=>?_;obtain⟨d1,d2⟩:=d
 cases d1 with
 | some r=>rfl
 | none=>exact congrArg (Bind.bind _) (funext fun _=>e rfl fun ⟨r,_⟩=>by cases r <;> rfl)
section
variable {prog:Program} {w:World} {A:Around} {E:Value→Shared→Prop} {s:Shared} {kd:SortKind} {O:KeyOrd} {C:Cmp prog w A E s kd O} {st:SortSt} {a b:Array Keyed}
structure Two (C:Cmp prog w A E s kd O) (a b:Array Keyed):Prop where
 ga:bJ C a
 gb:bJ C b
 sa:LS C a.toList
 sb:LS C b.toList
 na:1<=a.size
 nb:1<=b.size
 fst:∀p q,b[0]?=some p->a[0]?=some q->O.kle (C.key p) (C.key q)
 lst:∀x q,x∈b.toList->a[a.size - 1]?=some q->O.kle (C.key x) (C.key q)
def LI(C:Cmp prog w A E s kd O)(a b:Array Keyed)(N:Nat)(c:GS):Prop:=c.1=none/\MI C a b c.2.1 c.2.2.1 c.2.2.2.1/\c.2.2.1+1<a.size/\c.2.2.2.1<b.size/\N<=c.2.1.size
def g7(C:Cmp prog w A E s kd O)(a b:Array Keyed)(N:Nat)(st:SortSt)(r:ForInStep GS)(st':SortSt):Prop:=Eqv st st'/\match r with
 | .done c=>(∃x,c.1=some x/\MR C a b x)\/LI C a b N c
 | .yield c=>LI C a b N c
theorem pR(T:Two C a b)(m:MI C a b ou i j)(hi:i+1<a.size)(hj:j<b.size)(hN:N<=ou.size)(hle:∀p q,a[i]?=some p->b[j]?=some q->O.kle (C.key p) (C.key q)) :
  wpS (model prog w) A E s (loT3 a b ou i j g na nb) (g7 C a b N st) st:=by
 unfold loT3;refine wpS_bind (aM (by lia) fun x hx=>?_);have m1:=m.pushA T.sa T.sb hx (fun q hq=>hle x q hx hq);have hsz:(ou.push x).size=ou.size+1:=qbj ..;by_cases h1:i+1+1=a.size
 ·rw[qaf (by simpa using h1)];exact wpS_pure ⟨Eqv.rfl',.inl ⟨_,rfl,m1.one T.sa T.sb h1 fun y q hy hq=>T.lst y q hy (by rw[<-h1];exact hq)⟩⟩
 ·rw[qai (by simpa using h1)];have li:LI C a b N (none,ou.push x,i+1,j,g,na,nb):=⟨rfl,m1,by show i+1+1<a.size;lia,hj,by show N<=(ou.push x).size;lia⟩;split
  ·exact wpS_pure ⟨Eqv.rfl',.inr li⟩
  ·exact wpS_pure ⟨Eqv.rfl',li⟩
theorem o7(T:Two C a b)(hk:kindOf st=kd)(m:MI C a b ou i j)(hi:i+1<a.size)(hj:j<b.size)(hN:N<=ou.size)(hle:∀p q,b[j]?=some p->a[i]?=some q->O.kle (C.key p) (C.key q)) :
  wpS (model prog w) A E s (loT2 a b ou i j g na nb) (g7 C a b N st) st:=by
 unfold loT2;refine wpS_bind (aM hj fun x hx=>?_);have m1:=m.pushB T.sa T.sb hx (fun q hq=>hle x q hx hq);have hsz:(ou.push x).size=ou.size+1:=qbj ..;by_cases h1:j+1=b.size
 ·rw[qaf (by simpa using h1)];exact wpS_pure ⟨Eqv.rfl',.inl ⟨_,rfl,m1.all T.sa T.sb (.inr (by lia))⟩⟩
 ·rw[qai (by simpa using h1)];refine wpS_bind (aM (by lia) fun y hy=>?_);refine wpS_bind (cx (C:=C) hk T.gb (bc T.ga hy) (by lia) (by lia) ?_ fun k hkn hlo hhi=>?_)
  ·intro p q hp hpq hq;exact hV T.sb p q (qaG _) hpq (by lia)
  ·have hlo':∀r p q,r<k->b[j+1+r]?=some p->a[i]?=some q->O.kle (C.key p) (C.key q):=fun r p q hr hp hq=>by
    have:=hlo r hr
    unfold ahead at this;rw[aJ hp] at this;rw[hy] at hq;cases hq;exact KeyOrd.kle_of_klt this
   have hhi':∀p q,a[i]?=some p->b[j+1+k]?=some q->O.kle (C.key p) (C.key q):=fun p q hp hq=>by
    have hlt:=(qaU.mp hq).1
    have:=hhi k (qag _) (by lia)
    unfold ahead at this;rw[aJ hq] at this;rw[hy] at hp;cases hp;exact this
   dsimp only;by_cases hk0:k>0
   ·rw[qaf hk0];have m2:=m1.moveB T.sa T.sb k (by lia) hlo';by_cases h2:j+1+k=b.size
    ·rw[qaf (by simpa using h2)];exact wpS_pure ⟨Eqv.rfl',.inl ⟨_,rfl,m2.all T.sa T.sb (.inr (by lia))⟩⟩
    ·rw[qai (by simpa using h2)];exact pR T m2 hi (by lia) (by rw[qbN];lia) hhi'
   ·rw[qai hk0];have e:k=0:=by lia
    subst e;exact pR T m1 hi (by lia) (by lia) hhi'
theorem pc(T:Two C a b)(hk:kindOf st=kd)(m:MI C a b ou i j)(hi:i+1<a.size)(hj:j<b.size)(hN:N<=ou.size) :
  wpS (model prog w) A E s (loT1 a b ou i j g na nb) (g7 C a b N st) st:=by
 unfold loT1;rw[iF];refine wpS_bind (wpS_modify ?_);have ev:Eqv st (SortSt.mk' (kindOf st) (arrOf st) (pendingOf st) g (failedOf st)):=⟨rfl,rfl,rfl,rfl⟩;refine wpS_mono (Q:=g7 C a b N (SortSt.mk' (kindOf st) (arrOf st) (pendingOf st) g (failedOf st))) ?_ fun r st' h=>⟨ev.trans h.1,h.2⟩;have hk':kindOf (SortSt.mk' (kindOf st) (arrOf st) (pendingOf st) g (failedOf st))=kd:=hk;refine wpS_bind (aM hj fun x hx=>?_);refine wpS_bind (cx (C:=C) hk' T.ga (bc T.gb hx) (by lia) (by lia) ?_ fun k hkn hlo hhi=>?_)
 ·intro p q hp hpq hq;exact hV T.sa p q (qaG _) hpq (by lia)
 ·have hlo':∀r p q,r<k->a[i+r]?=some p->b[j]?=some q->O.kle (C.key p) (C.key q):=fun r p q hr hp hq=>by
   have:=hlo r hr
   unfold ahead at this;rw[aJ hp] at this;rw[hx] at hq;cases hq;simp only[qam,if_false,qbp] at this;exact this
  have hhi':∀p q,b[j]?=some p->a[i+k]?=some q->O.kle (C.key p) (C.key q):=fun p q hp hq=>by
   have hlt:=(qaU.mp hq).1
   have:=hhi k (qag _) (by lia)
   unfold ahead at this;rw[aJ hq] at this;rw[hx] at hp;cases hp;simp only[qam,if_false,qcf] at this;exact KeyOrd.kle_of_klt this
  dsimp only;by_cases hk0:k>0
  ·rw[qaf hk0];have m2:=m.moveA T.sa T.sb k (by lia) hlo';by_cases h2:i+k+1=a.size
   ·rw[qaf (by simpa using h2)];exact wpS_pure ⟨Eqv.rfl',.inl ⟨_,rfl,m2.one T.sa T.sb h2 fun y q hy hq=>T.lst y q hy (by rw[<-h2];exact hq)⟩⟩
   ·rw[qai (by simpa using h2)];by_cases h3:i+k=a.size
    ·rw[qaf (by simpa using h3)];exact wpS_pure ⟨Eqv.rfl',.inl ⟨_,rfl,m2.all T.sa T.sb (.inl (by lia))⟩⟩
    ·rw[qai (by simpa using h3)];exact o7 T hk' m2 (by lia) hj (by rw[qbN];lia) hhi'
  ·rw[qai hk0];have e:k=0:=by lia
   subst e;exact o7 T hk' m hi hj hN hhi'
def L1l(C:Cmp prog w A E s kd O)(a b:Array Keyed)(N:Nat)(c:LBt):Prop:=c.1=none/\MI C a b c.2.1 c.2.2.1 c.2.2.2.1/\c.2.2.1+1<a.size/\c.2.2.2.1<b.size/\N<=c.2.1.size
def L0l(C:Cmp prog w A E s kd O)(a b:Array Keyed)(N:Nat)(c:LCt):Prop:=c.1=none/\MI C a b c.2.1 c.2.2.1 c.2.2.2.1/\c.2.2.1+1<a.size/\c.2.2.2.1<b.size/\N<=c.2.1.size
def Stp1(C:Cmp prog w A E s kd O)(a b:Array Keyed)(N:Nat)(st:SortSt)(r:ForInStep LBt)(st':SortSt):Prop:=match r with
 | .done c=>st'=st/\((∃x,c.1=some x/\MR C a b x)\/L1l C a b N c)
 | .yield c=>st'=st/\L1l C a b N c
def Stp0(C:Cmp prog w A E s kd O)(a b:Array Keyed)(N:Nat)(st:SortSt)(r:ForInStep LCt)(st':SortSt):Prop:=match r with
 | .done c=>Eqv st st'/\∃x,c.1=some x/\MR C a b x
 | .yield c=>Eqv st st'/\L0l C a b N c
theorem loP_ok(T:Two C a b)(hk':kindOf st=kd)(m':MI C a b ou' i' j')(hi':i'+1<a.size)(hj':j'<b.size)(hN:N<=ou'.size) :
  wpS (model prog w) A E s (loP a b g (none,ou',i',j',na,nb)) (Stp1 C a b (N+1) st) st:=by
 unfold loP;dsimp only;refine wpS_bind (aM hj' fun p hp=>wpS_bind (aM (by lia) fun q hq=>?_));refine wpS_bind (C.ask p q st _ (bc T.gb hp) (bc T.ga hq) hk' ?_)
 cases hz:O.blt (C.key p) (C.key q) with
 | true =>
  dsimp only;rw[qaf rfl];refine wpS_bind (aM hj' fun p' hp'=>?_);rw[hp] at hp';cases hp';have m2:=m'.pushB T.sa T.sb hp (fun q' hq'=>by rw[hq] at hq';cases hq';exact KeyOrd.kle_of_klt hz);have hs2:(ou'.push p).size=ou'.size+1:=qbj ..;by_cases h3:j'+1=b.size
  ·rw[qaf (by simpa using h3)];exact wpS_pure ⟨rfl,.inl ⟨_,rfl,m2.all T.sa T.sb (.inr (by lia))⟩⟩
  ·rw[qai (by simpa using h3)];split
   ·exact wpS_pure ⟨rfl,.inr ⟨rfl,m2,hi',by lia,by rw[hs2];lia⟩⟩
   ·exact wpS_pure ⟨rfl,rfl,m2,hi',by lia,by rw[hs2];lia⟩
 | false =>
  dsimp only;rw[qai (by simp)];refine wpS_bind (aM (by lia) fun q' hq'=>?_);rw[hq] at hq';cases hq';have m2:=m'.pushA T.sa T.sb hq (fun p' hp'=>by rw[hp] at hp';cases hp';exact hz);have hs2:(ou'.push q).size=ou'.size+1:=qbj ..;by_cases h3:i'+1+1=a.size
  ·rw[qaf (by simpa using h3)];exact wpS_pure ⟨rfl,.inl ⟨_,rfl,m2.one T.sa T.sb h3 fun y q hy hq=>T.lst y q hy (by rw[<-h3];exact hq)⟩⟩
  ·rw[qai (by simpa using h3)];split
   ·exact wpS_pure ⟨rfl,.inr ⟨rfl,m2,by lia,hj',by rw[hs2];lia⟩⟩
   ·exact wpS_pure ⟨rfl,rfl,m2,by lia,hj',by rw[hs2];lia⟩
theorem loE_ok(ev:Eqv st0 st)(hc:(∃x,c.1=some x/\MR C a b x)\/LI C a b N c):wpS (model prog w) A E s (loE c) (Stp0 C a b N st0) st:=by
 obtain⟨c1,ou3,i3,j3,g3,na3,nb3⟩:=c;rcases hc with ⟨r,hr,mr⟩|⟨hc,hr⟩
 ·cases hr;exact wpS_pure ⟨ev,r,rfl,mr⟩
 ·cases hc;unfold loE;dsimp only;rw[iF];exact wpS_bind (wpS_modify (wpS_pure ⟨ev.trans ⟨rfl,rfl,rfl,rfl⟩,rfl,hr⟩))
theorem loG_ok(T:Two C a b)(hk:kindOf st=kd)(h:LI C a b N c):wpS (model prog w) A E s (loG a b c) (g7 C a b N st) st:=by
 obtain⟨_,m3,hi3,hj3,hN3⟩:=h;unfold loG;split
 ·exact pc T hk m3 hi3 hj3 hN3
 ·exact pc T hk m3 hi3 hj3 hN3
theorem loD_ok(T:Two C a b)(hk:kindOf st=kd)(ev:Eqv st0 st)(hc:(∃x,c.1=some x/\MR C a b x)\/L1l C a b N c):wpS (model prog w) A E s (loD a b g c) (Stp0 C a b N st0) st:=by
 obtain⟨c1,ou',i',j',na,nb⟩:=c;rcases hc with ⟨r,hr,mr⟩|⟨hc,hr⟩
 ·cases hr;exact wpS_pure ⟨ev,r,rfl,mr⟩
 ·cases hc;unfold loD;dsimp only;refine wpS_bind (wpS_lift (wpAny_rule ⟨rfl,?_⟩));refine wpS_bind (wpS_mono (wpS_forRange (I:=fun y c st3=>Eqv st st3/\LI C a b N c) (Q:=fun c st3=>Eqv st st3/\((∃x,c.1=some x/\MR C a b x)\/LI C a b N c)) ?_ ?_ ⟨Eqv.rfl',rfl,hr⟩) ?_)
  ·rintro y c st3 _ hy ⟨ev3,h3⟩;refine wpS_mono (loG_ok T (ev3.kind.trans hk) h3) fun r st4 hr=>?_
   cases r with
   | done c'=>exact⟨ev3.trans hr.1,hr.2⟩
   | yield c'=>exact⟨ev3.trans hr.1,hr.2⟩
  ·rintro c st3 ⟨ev3,hli⟩;exact⟨ev3,.inr hli⟩
  ·rintro c st3 ⟨ev3,hc⟩;exact loE_ok (ev.trans ev3) hc
theorem loO_ok(T:Two C a b)(hk:kindOf st=kd)(h:L0l C a b N c):wpS (model prog w) A E s (loO a b c) (Stp0 C a b (N+1) st) st:=by
 obtain⟨c1,ou,i,j,g⟩:=c;obtain⟨hc,hm⟩:=h;cases hc;unfold loO
 refine wpS_bind (wpS_mono (wpS_forRange (I:=fun y c st''=>st''=st/\L1l C a b (N+y) c)
  (Q:=fun c st''=>st''=st/\((∃x,c.1=some x/\MR C a b x)\/L1l C a b (N+1) c)) ?_ ?_ ⟨rfl,rfl,hm⟩) ?_)
 ·rintro y c st'' _ hy ⟨rfl,h1⟩;obtain⟨c1,ou',i',j',na,nb⟩:=c;obtain⟨hc,m',hi',hj',hsz'⟩:=h1;cases hc;refine wpS_mono (loP_ok T hk m' hi' hj' hsz') fun r st4 hr=>?_
  cases r with
  | done c'=>exact⟨hr.1,hr.2.imp_right fun h=>⟨h.1,h.2.1,h.2.2.1,h.2.2.2.1,qaA (by lia) h.2.2.2.2⟩⟩
  | yield c'=>exact hr
 ·rintro c st'' ⟨rfl,h⟩
  have:=T.na
  exact⟨rfl,.inr ⟨h.1,h.2.1,h.2.2.1,h.2.2.2.1,qaA (by lia) h.2.2.2.2⟩⟩
 ·rintro c st'' ⟨rfl,hc⟩;exact loD_ok T hk Eqv.rfl' hc
theorem loZ_ok(T:Two C a b)(hk:kindOf st=kd)(h1:MI C a b #[x0] 0 1)(ha:0+1<a.size)(hb:1<b.size)(h:∀x st',Eqv st st'->MR C a b x->Q x st'):wpS (model prog w) A E s (loZ a b x0) Q st:=by
 unfold loZ;refine wpS_bind (wpS_get ?_)
 refine wpS_bind (wpS_mono (wpS_forRange (I:=fun x c st'=>Eqv st st'/\L0l C a b (x+1) c)
  (Q:=fun c st'=>Eqv st st'/\∃x,c.1=some x/\MR C a b x) ?_ ?_ ⟨Eqv.rfl',rfl,h1,ha,hb,qag _⟩) ?_)
 ·rintro x c st' _ hx ⟨ev,h0⟩;refine wpS_mono (loO_ok T (ev.kind.trans hk) h0) fun r st4 hr=>?_
  cases r with
  | done c'=>exact⟨ev.trans hr.1,hr.2⟩
  | yield c'=>exact⟨ev.trans hr.1,hr.2⟩
 ·rintro c st' ⟨ev,h0⟩;exfalso;have h1:=h0.2.2.1;have h2:=h0.2.2.2.1
  have:=h0.2.1.size (by lia) (by lia)
  have:=h0.2.2.2.2
  lia
 ·rintro c st' ⟨ev,r,hr,mr⟩;obtain⟨c1,c2⟩:=c;cases hr;exact wpS_pure (h r st' ev mr)
theorem wps_lo(T:Two C a b)(hk:kindOf st=kd)(h:∀x st',Eqv st st'->MR C a b x->Q x st'):wpS (model prog w) A E s (fT a b) Q st:=by
 rw[lo_n];refine wpS_bind (wpS_lift (wpAny_rule ⟨rfl,?_⟩));have hna:=T.na;have hnb:=T.nb;refine wpS_bind (aM (by lia) fun x0 hx0=>?_);have m0:MI C a b #[] 0 0:=⟨by simp,by unfold LS;simp,fun x hx=>by simp at hx⟩;have m1:MI C a b #[x0] 0 1:=by
  have:=m0.pushB T.sa T.sb hx0 (fun q hq=>T.fst x0 q hx0 hq)
  simpa using this
 by_cases h1:1=b.size
 ·rw[qaf (by simpa using h1)]
  have:=m1.all T.sa T.sb (.inr (by lia))
  exact wpS_pure (h _ st Eqv.rfl' (by simpa using this))
 ·rw[qai (by simpa using h1)];by_cases h2:0+1=a.size
  ·rw[qaf (by simpa using h2)]
   have:=m1.one T.sa T.sb h2 fun y q hy hq=>T.lst y q hy (by rw[<-h2];exact hq)
   exact wpS_pure (h _ st Eqv.rfl' (by simpa using this))
  ·rw[qai (by simpa using h2)];exact loZ_ok T hk m1 (by lia) (by lia) h
end
def gf:Array Keyed->Array Keyed->StateT SortSt Sem (Array Keyed):=sortPriv% PySem.Builtin.mergeHi
theorem oD(a b:Array Keyed):gf a b=(do
 rule "list.sort.merge-hi"
 let tot:=a.size+b.size
 let all (ou:Array Keyed) (m n:Nat):=a.extract 0 m++b.extract 0 n++ou.reverse
 let one (ou:Array Keyed) (m n:Nat):=b.extract 0 n++a.extract 0 m++ou.reverse
 let mut m:=a.size - 1
 let mut n:=b.size
 let mut ou:Array Keyed:=#[<-elem' a m]
 if m == 0 then return all ou m n
 if n == 1 then return one ou m n
 let mut g:=gallopOf (<-get)
 for _ in [0:tot] do
  let mut ca:=0
  let mut cb:=0
  for _ in [0:tot] do
   let some q <-lt' (<-elem' b (n - 1)) (<-elem' a (m - 1))|return all ou m n
   if q then
    m:=m - 1;ou:=ou.push (<-elem' a m);ca:=ca+1;cb:=0
    if m == 0 then return all ou m n
    if ca>=g then break
   else
    n:=n - 1;ou:=ou.push (<-elem' b n);cb:=cb+1;ca:=0
    if n == 1 then return one ou m n
    if cb>=g then break
  rule "list.sort.gallop"
  g:=g+1
  for _ in [0:tot] do
   if g>1 then g:=g - 1
   gj g
   let some z <-gallop' false (<-elem' b (n - 1)) a 0 m (m - 1)|return all ou m n
   let k:=m - z
   ca:=k
   if k>0 then
    ou:=ou++(a.extract z m).reverse;m:=z
    if m == 0 then return all ou m n
   n:=n - 1;ou:=ou.push (<-elem' b n)
   if n == 1 then return one ou m n
   let some z <-gallop' true (<-elem' a (m - 1)) b 0 n (n - 1)|return all ou m n
   let k:=n - z
   cb:=k
   if k>0 then
    ou:=ou++(b.extract z n).reverse;n:=z
    if n == 1 then return one ou m n
    if n == 0 then return all ou m n
   m:=m - 1;ou:=ou.push (<-elem' a m)
   if m == 0 then return all ou m n
   if ca<7 && cb<7 then break
  g:=g+1
  gj g
 unsupported "internal:list.sort.merge-bound"):=rfl
section
variable {prog:Program} {w:World} {A:Around} {E:Value→Shared→Prop} {s:Shared} {kd:SortKind} {O:KeyOrd} {C:Cmp prog w A E s kd O} {a b ou:Array Keyed} {m n:Nat} {st:SortSt}
structure HI (C:Cmp prog w A E s kd O) (a b ou:Array Keyed) (m n:Nat):Prop where
 perm:(a.toList.take m++b.toList.take n++ou.toList.reverse).Perm (a.toList++b.toList)
 srt:LS C ou.toList.reverse
 hgh:LB C (a.toList.take m++b.toList.take n) ou.toList.reverse
theorem HI.size(h:HI C a b ou m n)(hm:m<=a.size)(hn:n<=b.size):ou.size+m+n=a.size+b.size:=by
 have:=h.perm.length_eq
 simp at this;lia
theorem iw{xs:Array Keyed}{i:Nat}{p:Keyed}(h:xs[i]?=some p):xs.toList.take (i+1)=xs.toList.take i++[p]:=by
 rw[List.take_succ,qaF,h];rfl
theorem fD{xs:Array Keyed}(h:LS C xs.toList)(i:Nat):LS C (xs.toList.take i):=h.sublist (List.take_sublist i _)
theorem ig{xs:Array Keyed}(h:LS C xs.toList){i:Nat}{p:Keyed}(hp:xs[i]?=some p):∀y∈xs.toList.take (i+1),O.kle (C.key y) (C.key p):=by
 have h1:=fD h (i+1);rw[iw hp] at h1 ⊢;unfold LS at h1;rw[List.pairwise_append] at h1;intro y hy;rcases qav.mp hy with hy|hy
 ·exact h1.2.2 y hy p (by simp)
 ·have:y=p:=by simpa using hy
  subst this;exact KeyOrd.kle_refl _
theorem dg(p:Keyed):(ou.push p).toList.reverse=p::ou.toList.reverse:=by simp
theorem HI.pushA(h:HI C a b ou (m+1) n)(ha:LS C a.toList)(hb:LS C b.toList){p:Keyed}(hp:a[m]?=some p)(hn:1<=n)(hnb:n<=b.size)(hq:∀q,b[n - 1]?=some q->O.kle (C.key q) (C.key p)):HI C a b (ou.push p) m n:=by
 have hd:=iw hp;obtain⟨q,hqq⟩:∃q,b[n - 1]?=some q:=⟨_,getElem?_pos b (n - 1) (by lia)⟩;have hle:∀y∈a.toList.take m++b.toList.take n,O.kle (C.key y) (C.key p):=by
  intro y hy;rcases qav.mp hy with hy|hy
  ·exact ig ha hp y (by rw[hd];exact qay _ hy)
  ·refine KeyOrd.kle_trans (ig hb hqq y ?_) (hq q hqq)
   have:n - 1+1=n:=by lia
   rw[this];exact hy
 refine⟨?_,?_,?_⟩
 ·have:=h.perm
  rw[hd] at this;rw[dg];refine List.Perm.trans ?_ this;have e1:(a.toList.take m++b.toList.take n++p::ou.toList.reverse).Perm (p::(a.toList.take m++b.toList.take n++ou.toList.reverse)):=qbD;have e2:(a.toList.take m++[p]++b.toList.take n++ou.toList.reverse).Perm (p::(a.toList.take m++b.toList.take n++ou.toList.reverse)):=by
   have:a.toList.take m++[p]++b.toList.take n++ou.toList.reverse=a.toList.take m++p::(b.toList.take n++ou.toList.reverse):=by simp
   rw[this];have q:=qbD (a:=p) (l₁:=a.toList.take m) (l₂:=b.toList.take n++ou.toList.reverse);rw[<-qaX] at q;exact q
  exact e1.trans e2.symm
 ·rw[dg];unfold LS;rw[qcd];refine⟨fun y hy=>h.hgh p (qay _ (by rw[hd];simp)) y hy,h.srt⟩
 ·rw[dg];intro x hx y hy;rcases qan.mp hy with rfl|hy
  ·exact hle x hx
  ·refine h.hgh x ?_ y hy;rcases qav.mp hx with hx|hx
   ·exact qay _ (by rw[hd];exact qay _ hx)
   ·exact qac _ hx
theorem HI.pushB(h:HI C a b ou m (n+1))(ha:LS C a.toList)(hb:LS C b.toList){p:Keyed}(hp:b[n]?=some p)(hm:1<=m)(hma:m<=a.size)(hq:∀q,a[m - 1]?=some q->O.kle (C.key q) (C.key p)):HI C a b (ou.push p) m n:=by
 have hd:=iw hp;obtain⟨q,hqq⟩:∃q,a[m - 1]?=some q:=⟨_,getElem?_pos a (m - 1) (by lia)⟩;have hle:∀y∈a.toList.take m++b.toList.take n,O.kle (C.key y) (C.key p):=by
  intro y hy;rcases qav.mp hy with hy|hy
  ·refine KeyOrd.kle_trans (ig ha hqq y ?_) (hq q hqq)
   have:m - 1+1=m:=by lia
   rw[this];exact hy
  ·exact ig hb hp y (by rw[hd];exact qay _ hy)
 refine⟨?_,?_,?_⟩
 ·have:=h.perm
  rw[hd] at this;rw[dg];have e:a.toList.take m++(b.toList.take n++[p])++ou.toList.reverse=a.toList.take m++b.toList.take n++p::ou.toList.reverse:=by simp
  rw[e] at this;exact this
 ·rw[dg];unfold LS;rw[qcd];refine⟨fun y hy=>h.hgh p (qac _ (by rw[hd];simp)) y hy,h.srt⟩
 ·rw[dg];intro x hx y hy;rcases qan.mp hy with rfl|hy
  ·exact hle x hx
  ·refine h.hgh x ?_ y hy;rcases qav.mp hx with hx|hx
   ·exact qay _ hx
   ·exact qac _ (by rw[hd];exact qay _ hx)
theorem mZ{xs:Array Keyed}{m k:Nat}{p:Keyed}(hk:k<m)(hm:m<=xs.size)(h:xs[m - (k+1)]?=some p):ou++(xs.extract (m - (k+1)) m).reverse=(ou++(xs.extract (m - k) m).reverse).push p:=by
 apply qaS.mp;simp only[qaP,qbW,qaY,qbn,qaD];have e1:m - (m - (k+1))=k+1:=by lia
 have e2:m - (m - k)=k:=by lia
 have e3:m - (k+1)+1=m - k:=by lia
 rw[e1,e2,fx h,e3,List.take_succ_cons];simp
theorem HI.moveA(h:HI C a b ou m n)(ha:LS C a.toList)(hb:LS C b.toList)(hm:m<=a.size)(hn:1<=n)(hnb:n<=b.size):∀k,k<=m->(∀r p q,m - k<=r->r<m->a[r]?=some p->b[n - 1]?=some q->O.kle (C.key q) (C.key p)) ->
  HI C a b (ou++(a.extract (m - k) m).reverse) (m - k) n:=by
 intro k
 induction k with
 | zero =>
  intro _ _;have e:ou++(a.extract (m - 0) m).reverse=ou:=by apply qaS.mp;simp[qaD]
  rw[e];exact h
 | succ k ih =>
  intro hk hq;have hp:a[m - (k+1)]?=some (a[m - (k+1)]'(by lia)):=getElem?_pos a _ (by lia);have h1:=ih (by lia) fun r p q hr1 hr2=>hq r p q (by lia) hr2;have e:m - k=m - (k+1)+1:=by lia
  rw[mZ (by lia) hm hp];rw[e] at h1;have h2:=h1.pushA ha hb hp hn hnb (fun q hq'=>hq _ _ q (qag _) (by lia) hp hq');rw[<-e] at h2;exact h2
theorem HI.moveB(h:HI C a b ou m n)(ha:LS C a.toList)(hb:LS C b.toList)(hn:n<=b.size)(hm:1<=m)(hma:m<=a.size):∀k,k<=n->(∀r p q,n - k<=r->r<n->b[r]?=some p->a[m - 1]?=some q->O.kle (C.key q) (C.key p)) ->
  HI C a b (ou++(b.extract (n - k) n).reverse) m (n - k):=by
 intro k
 induction k with
 | zero =>
  intro _ _;have e:ou++(b.extract (n - 0) n).reverse=ou:=by apply qaS.mp;simp[qaD]
  rw[e];exact h
 | succ k ih =>
  intro hk hq;have hp:b[n - (k+1)]?=some (b[n - (k+1)]'(by lia)):=getElem?_pos b _ (by lia);have h1:=ih (by lia) fun r p q hr1 hr2=>hq r p q (by lia) hr2;have e:n - k=n - (k+1)+1:=by lia
  rw[mZ (by lia) hn hp];rw[e] at h1;have h2:=h1.pushB ha hb hp hm hma (fun q hq'=>hq _ _ q (qag _) (by lia) hp hq');rw[<-e] at h2;exact h2
theorem eI{xs:Array Keyed}{i:Nat}:(xs.extract 0 i).toList=xs.toList.take i:=by
 rw[qbn,qaD];simp
theorem HI.all(h:HI C a b ou m n)(ha:LS C a.toList)(hb:LS C b.toList)(hz:m=0\/n=0):MR C a b (a.extract 0 m++b.extract 0 n++ou.reverse):=by
 have e:(a.extract 0 m++b.extract 0 n++ou.reverse).toList=a.toList.take m++b.toList.take n++ou.toList.reverse:=by
  rw[qaP,qaP,eI,eI,qbW]
 unfold MR;rw[e];refine⟨h.perm,bC ?_ h.srt h.hgh⟩;rcases hz with rfl|rfl
 ·simpa using fD hb n
 ·simpa using fD ha m
theorem HI.one(h:HI C a b ou m n)(T:Two C a b)(hz:n=1):MR C a b (b.extract 0 n++a.extract 0 m++ou.reverse):=by
 subst hz;have e:(b.extract 0 1++a.extract 0 m++ou.reverse).toList=b.toList.take 1++a.toList.take m++ou.toList.reverse:=by
  rw[qaP,qaP,eI,eI,qbW]
 unfold MR;rw[e];have hnb:=T.nb;have hna:=T.na;have hp:b[0]?=some (b[0]'(by lia)):=getElem?_pos b 0 (by lia);have hq:a[0]?=some (a[0]'(by lia)):=getElem?_pos a 0 (by lia);have hd:=iw hp;refine⟨(List.Perm.append_right _ qct).trans h.perm,bC (bC (fD T.sb 1) (fD T.sa m) ?_) h.srt ?_⟩
 ·intro x hx y hy;have hx':x=b[0]'(by lia):=by
   have:x∈b.toList.take (0+1):=hx
   rw[hd] at this;simpa using this
  subst hx';refine KeyOrd.kle_trans (T.fst _ _ hp hq) (fM T.sa hq y ?_);rw[qbP];exact List.mem_of_mem_take hy
 ·intro x hx y hy;exact h.hgh x (qav.mpr (qav.mp hx).symm) y hy
end
abbrev HS:=Option (Array Keyed) × Nat × Nat × Array Keyed × Nat × Nat × Nat
def hiT3(a b ou:Array Keyed)(m n g ca cb:Nat):StateT SortSt Sem (ForInStep HS):=do
 let x <-elem' a (m - 1)
 if (m - 1 == 0)=true then pure (ForInStep.done (some (a.extract 0 (m - 1)++b.extract 0 n++(ou.push x).reverse),m - 1,n,ou.push x,g,ca,cb))
 else if (decide (ca<7) && decide (cb<7))=true then pure (ForInStep.done (none,m - 1,n,ou.push x,g,ca,cb))
 else pure (ForInStep.yield (none,m - 1,n,ou.push x,g,ca,cb))
def hiT2(a b ou:Array Keyed)(m n g ca cb:Nat):StateT SortSt Sem (ForInStep HS):=do
 let x <-elem' b (n - 1)
 if (n - 1 == 1)=true then pure (ForInStep.done (some (b.extract 0 (n - 1)++a.extract 0 m++(ou.push x).reverse),m,n - 1,ou.push x,g,ca,cb))
 else do
  let y <-elem' a (m - 1)
  let q <-gallop' true y b 0 (n - 1) (n - 1 - 1)
  match q with
  | some z =>
   if n - 1 - z>0 then
    if (z == 1)=true then
     pure (ForInStep.done (some (b.extract 0 z++a.extract 0 m++(ou.push x++(b.extract z (n - 1)).reverse).reverse),m,z,ou.push x++(b.extract z (n - 1)).reverse,g,ca,n - 1 - z))
    else if (z == 0)=true then
     pure (ForInStep.done (some (a.extract 0 m++b.extract 0 z++(ou.push x++(b.extract z (n - 1)).reverse).reverse),m,z,ou.push x++(b.extract z (n - 1)).reverse,g,ca,n - 1 - z))
    else hiT3 a b (ou.push x++(b.extract z (n - 1)).reverse) m z g ca (n - 1 - z)
   else hiT3 a b (ou.push x) m (n - 1) g ca (n - 1 - z)
  | _=>pure (ForInStep.done (some (a.extract 0 m++b.extract 0 (n - 1)++(ou.push x).reverse),m,n - 1,ou.push x,g,ca,cb))
def hiT1(a b ou:Array Keyed)(m n g ca cb:Nat):StateT SortSt Sem (ForInStep HS):=do
 gj g
 let x <-elem' b (n - 1)
 let q <-gallop' false x a 0 m (m - 1)
 match q with
 | some z =>
  if m - z>0 then
   if (z == 0)=true then
    pure (ForInStep.done (some (a.extract 0 z++b.extract 0 n++(ou++(a.extract z m).reverse).reverse),z,n,ou++(a.extract z m).reverse,g,m - z,cb))
   else hiT2 a b (ou++(a.extract z m).reverse) z n g (m - z) cb
  else hiT2 a b ou m n g (m - z) cb
 | _=>pure (ForInStep.done (some (a.extract 0 m++b.extract 0 n++ou.reverse),m,n,ou,g,ca,cb))
abbrev HB:=Option (Array Keyed) × Nat × Nat × Array Keyed × Nat × Nat
abbrev HC:=Option (Array Keyed) × Nat × Nat × Array Keyed × Nat
def hiP(a b:Array Keyed)(g:Nat)(c:HB):StateT SortSt Sem (ForInStep HB):=do
 let x <-elem' b (c.2.2.1 - 1)
 let y <-elem' a (c.2.1 - 1)
 let q <-lt' x y
 match q with
 | some q =>
  if q=true then do
   let z <-elem' a (c.2.1 - 1)
   if (c.2.1 - 1 == 0)=true then pure (ForInStep.done (some (a.extract 0 (c.2.1 - 1)++b.extract 0 c.2.2.1++(c.2.2.2.1.push z).reverse),c.2.1 - 1,c.2.2.1,c.2.2.2.1.push z,c.2.2.2.2.1+1,0))
   else if c.2.2.2.2.1+1>=g then pure (ForInStep.done (none,c.2.1 - 1,c.2.2.1,c.2.2.2.1.push z,c.2.2.2.2.1+1,0))
   else pure (ForInStep.yield (none,c.2.1 - 1,c.2.2.1,c.2.2.2.1.push z,c.2.2.2.2.1+1,0))
  else do
   let z <-elem' b (c.2.2.1 - 1)
   if (c.2.2.1 - 1 == 1)=true then pure (ForInStep.done (some (b.extract 0 (c.2.2.1 - 1)++a.extract 0 c.2.1++(c.2.2.2.1.push z).reverse),c.2.1,c.2.2.1 - 1,c.2.2.2.1.push z,0,c.2.2.2.2.2+1))
   else if c.2.2.2.2.2+1>=g then pure (ForInStep.done (none,c.2.1,c.2.2.1 - 1,c.2.2.2.1.push z,0,c.2.2.2.2.2+1))
   else pure (ForInStep.yield (none,c.2.1,c.2.2.1 - 1,c.2.2.2.1.push z,0,c.2.2.2.2.2+1))
 | _=>pure (ForInStep.done (some (a.extract 0 c.2.1++b.extract 0 c.2.2.1++c.2.2.2.1.reverse),c.2.1,c.2.2.1,c.2.2.2.1,c.2.2.2.2.1,c.2.2.2.2.2))
def hiG(a b:Array Keyed)(c:HS):StateT SortSt Sem (ForInStep HS) :=
 if c.2.2.2.2.1>1 then hiT1 a b c.2.2.2.1 c.2.1 c.2.2.1 (c.2.2.2.2.1 - 1) c.2.2.2.2.2.1 c.2.2.2.2.2.2
 else hiT1 a b c.2.2.2.1 c.2.1 c.2.2.1 c.2.2.2.2.1 c.2.2.2.2.2.1 c.2.2.2.2.2.2
def hiE(c:HS):StateT SortSt Sem (ForInStep HC) :=
 match c.1 with
 | some r=>pure (ForInStep.done (some r,c.2.1,c.2.2.1,c.2.2.2.1,c.2.2.2.2.1))
 | none=>do
  gj (c.2.2.2.2.1+1)
  pure (ForInStep.yield (none,c.2.1,c.2.2.1,c.2.2.2.1,c.2.2.2.2.1+1))
def hiD(a b:Array Keyed)(g:Nat)(c:HB):StateT SortSt Sem (ForInStep HC) :=
 match c.1 with
 | some r=>pure (ForInStep.done (some r,c.2.1,c.2.2.1,c.2.2.2.1,g))
 | none=>do
  liftM (rule "list.sort.gallop")
  let e <-forIn [:a.size+b.size] ((none,c.2.1,c.2.2.1,c.2.2.2.1,g+1,c.2.2.2.2.1,c.2.2.2.2.2):HS) fun _ e=>hiG a b e
  hiE e
def hiO(a b:Array Keyed)(c:HC):StateT SortSt Sem (ForInStep HC):=do
 let d <-forIn [:a.size+b.size] ((none,c.2.1,c.2.2.1,c.2.2.2.1,0,0):HB) fun _ d=>hiP a b c.2.2.2.2 d
 hiD a b c.2.2.2.2 d
def hiZ(a b:Array Keyed)(x:Keyed):StateT SortSt Sem (Array Keyed):=do
 let g <-get
 let r <-forIn [:a.size+b.size] ((none,a.size - 1,b.size,#[x],gallopOf g):HC) fun _ c=>hiO a b c
 match r.1 with
 | some r=>pure r
 | none=>liftM (unsupported "internal:list.sort.merge-bound":Sem (Array Keyed))
theorem hi_n(a b:Array Keyed):gf a b=(do
 liftM (rule "list.sort.merge-hi")
 let x <-elem' a (a.size - 1)
 if (a.size - 1 == 0)=true then pure (a.extract 0 (a.size - 1)++b.extract++#[x].reverse)
 else if (b.size == 1)=true then pure (b.extract++a.extract 0 (a.size - 1)++#[x].reverse)
 else hiZ a b x):=by
 rw[oD];dsimp only;refine congrArg (Bind.bind _) (funext fun _=>congrArg (Bind.bind _) (funext fun x=>congrArg (fun z=>ite _ _ (ite _ _ z)) ?_));unfold hiZ;have e:∀{α β:Type} {x y:StateT SortSt Sem α} {f h:α->StateT SortSt Sem β},x=y->(∀a,f a=h a)->(x >>= f)=(y >>= h):=fun e f=>by rw[e,funext f]
 refine congrArg (Bind.bind _) (funext fun g=>e (congrArg (forIn _ _) (funext fun _=>funext fun c=>?_)) fun ⟨r,_⟩=>by cases r <;> rfl);refine e rfl fun d=>?_;obtain⟨d1,d2⟩:=d
 cases d1 with
 | some r=>rfl
 | none=>exact congrArg (Bind.bind _) (funext fun _=>e rfl fun ⟨r,_⟩=>by cases r <;> rfl)
section
variable {prog:Program} {w:World} {A:Around} {E:Value→Shared→Prop} {s:Shared} {kd:SortKind} {O:KeyOrd} {C:Cmp prog w A E s kd O} {st:SortSt} {a b:Array Keyed}
def LIh(C:Cmp prog w A E s kd O)(a b:Array Keyed)(N:Nat)(c:HS):Prop :=
 c.1=none/\HI C a b c.2.2.2.1 c.2.1 c.2.2.1/\1<=c.2.1/\c.2.1<=a.size/\2<=c.2.2.1/\c.2.2.1<=b.size/\N<=c.2.2.2.1.size
def jT(C:Cmp prog w A E s kd O)(a b:Array Keyed)(N:Nat)(st:SortSt)(r:ForInStep HS)(st':SortSt):Prop:=Eqv st st'/\match r with
 | .done c=>(∃x,c.1=some x/\MR C a b x)\/LIh C a b N c
 | .yield c=>LIh C a b N c
theorem pB(T:Two C a b)(h:HI C a b ou m n)(hm:1<=m)(hma:m<=a.size)(hn:2<=n)(hnb:n<=b.size)(hN:N<=ou.size)
  (hle:∀p q,b[n - 1]?=some p->a[m - 1]?=some q->O.kle (C.key p) (C.key q)):wpS (model prog w) A E s (hiT3 a b ou m n g ca cb) (jT C a b N st) st:=by
 unfold hiT3;refine wpS_bind (aM (by lia) fun x hx=>?_);have e:m=m - 1+1:=by lia
 have h1:HI C a b (ou.push x) (m - 1) n:=by
  have h':=h;rw[e] at h';exact h'.pushA T.sa T.sb hx (by lia) hnb (fun q hq=>hle q x hq hx)
 have hsz:(ou.push x).size=ou.size+1:=qbj ..;by_cases z1:m - 1=0
 ·rw[qaf (by simpa using z1)];exact wpS_pure ⟨Eqv.rfl',.inl ⟨_,rfl,h1.all T.sa T.sb (.inl z1)⟩⟩
 ·rw[qai (by simpa using z1)];have li:LIh C a b N (none,m - 1,n,ou.push x,g,ca,cb):=⟨rfl,h1,by show 1<=m - 1;lia,by show m - 1<=a.size;lia,hn,hnb,by show N<=(ou.push x).size;lia⟩;split
  ·exact wpS_pure ⟨Eqv.rfl',.inr li⟩
  ·exact wpS_pure ⟨Eqv.rfl',li⟩
theorem oY(T:Two C a b)(hk:kindOf st=kd)(h:HI C a b ou m n)(hm:1<=m)(hma:m<=a.size)(hn:2<=n)(hnb:n<=b.size)(hN:N<=ou.size)
  (hle:∀p q,a[m - 1]?=some p->b[n - 1]?=some q->O.kle (C.key p) (C.key q)):wpS (model prog w) A E s (hiT2 a b ou m n g ca cb) (jT C a b N st) st:=by
 unfold hiT2;refine wpS_bind (aM (by lia) fun x hx=>?_);have e:n=n - 1+1:=by lia
 have h1:HI C a b (ou.push x) m (n - 1):=by
  have h':=h;rw[e] at h';exact h'.pushB T.sa T.sb hx hm hma (fun q hq=>hle q x hq hx)
 have hsz:(ou.push x).size=ou.size+1:=qbj ..;by_cases z1:n - 1=1
 ·rw[qaf (by simpa using z1)];exact wpS_pure ⟨Eqv.rfl',.inl ⟨_,rfl,h1.one T z1⟩⟩
 ·rw[qai (by simpa using z1)];refine wpS_bind (aM (by lia) fun y hy=>?_);refine wpS_bind (cx (C:=C) hk T.gb (bc T.ga hy) (by lia) (by lia) ?_ fun z hz hlo hhi=>?_)
  ·intro p q hp hpq hq;exact hV T.sb p q (qaG _) hpq (by lia)
  ·have hlo':∀r p q,r<z->b[r]?=some p->a[m - 1]?=some q->O.kle (C.key p) (C.key q):=fun r p q hr hp hq=>by
    have:=hlo r hr
    unfold ahead at this;rw[qaZ,aJ hp] at this;rw[hy] at hq;cases hq;exact KeyOrd.kle_of_klt this
   have hhi':∀r p q,z<=r->r<n - 1->b[r]?=some p->a[m - 1]?=some q->O.kle (C.key q) (C.key p):=fun r p q hr1 hr2 hp hq=>by
    have:=hhi r hr1 hr2
    unfold ahead at this;rw[qaZ,aJ hp] at this;rw[hy] at hq;cases hq;exact this
   dsimp only;by_cases hk0:n - 1 - z>0
   ·rw[qaf hk0];have ez:n - 1 - (n - 1 - z)=z:=by lia
    have h2:=h1.moveB T.sa T.sb (by lia) hm hma (n - 1 - z) (by lia) (fun r p q hr1 hr2=>hhi' r p q (by lia) hr2);rw[ez] at h2;by_cases z2:z=1
    ·rw[qaf (by simpa using z2)];exact wpS_pure ⟨Eqv.rfl',.inl ⟨_,rfl,h2.one T z2⟩⟩
    ·rw[qai (by simpa using z2)];by_cases z3:z=0
     ·rw[qaf (by simpa using z3)];exact wpS_pure ⟨Eqv.rfl',.inl ⟨_,rfl,h2.all T.sa T.sb (.inr z3)⟩⟩
     ·rw[qai (by simpa using z3)];exact pB T h2 hm hma (by lia) (by lia) (by rw[qbN];lia) (fun p q hp hq=>hlo' (z - 1) p q (by lia) hp hq)
   ·rw[qai hk0];exact pB T h1 hm hma (by lia) (by lia) (by lia) (fun p q hp hq=>hlo' (n - 1 - 1) p q (by lia) hp hq)
theorem pU(T:Two C a b)(hk:kindOf st=kd)(h:HI C a b ou m n)(hm:1<=m)(hma:m<=a.size)(hn:2<=n)(hnb:n<=b.size)(hN:N<=ou.size) :
  wpS (model prog w) A E s (hiT1 a b ou m n g ca cb) (jT C a b N st) st:=by
 unfold hiT1;rw[iF];refine wpS_bind (wpS_modify ?_);have ev:Eqv st (SortSt.mk' (kindOf st) (arrOf st) (pendingOf st) g (failedOf st)):=⟨rfl,rfl,rfl,rfl⟩;refine wpS_mono (Q:=jT C a b N (SortSt.mk' (kindOf st) (arrOf st) (pendingOf st) g (failedOf st))) ?_ fun r st' h=>⟨ev.trans h.1,h.2⟩;have hk':kindOf (SortSt.mk' (kindOf st) (arrOf st) (pendingOf st) g (failedOf st))=kd:=hk;refine wpS_bind (aM (by lia) fun x hx=>?_);refine wpS_bind (cx (C:=C) hk' T.ga (bc T.gb hx) (by lia) (by lia) ?_ fun z hz hlo hhi=>?_)
 ·intro p q hp hpq hq;exact hV T.sa p q (qaG _) hpq (by lia)
 ·have hlo':∀r p q,r<z->a[r]?=some p->b[n - 1]?=some q->O.kle (C.key p) (C.key q):=fun r p q hr hp hq=>by
   have:=hlo r hr
   unfold ahead at this;rw[qaZ,aJ hp] at this;rw[hx] at hq;cases hq;simp only[qam,if_false,qbp] at this;exact this
  have hhi':∀r p q,z<=r->r<m->a[r]?=some p->b[n - 1]?=some q->O.kle (C.key q) (C.key p):=fun r p q hr1 hr2 hp hq=>by
   have:=hhi r hr1 hr2
   unfold ahead at this;rw[qaZ,aJ hp] at this;rw[hx] at hq;cases hq;simp only[qam,if_false,qcf] at this;exact KeyOrd.kle_of_klt this
  dsimp only;by_cases hk0:m - z>0
  ·rw[qaf hk0];have ez:m - (m - z)=z:=by lia
   have h2:=h.moveA T.sa T.sb hma (by lia) hnb (m - z) (by lia) (fun r p q hr1 hr2=>hhi' r p q (by lia) hr2);rw[ez] at h2;by_cases z2:z=0
   ·rw[qaf (by simpa using z2)];exact wpS_pure ⟨Eqv.rfl',.inl ⟨_,rfl,h2.all T.sa T.sb (.inl z2)⟩⟩
   ·rw[qai (by simpa using z2)];exact oY T hk' h2 (by lia) (by lia) hn hnb (by rw[qbN];lia) (fun p q hp hq=>hlo' (z - 1) p q (by lia) hp hq)
  ·rw[qai hk0];exact oY T hk' h hm hma hn hnb hN (fun p q hp hq=>hlo' (m - 1) p q (by lia) hp hq)
def L1h(C:Cmp prog w A E s kd O)(a b:Array Keyed)(N:Nat)(c:HB):Prop :=
 c.1=none/\HI C a b c.2.2.2.1 c.2.1 c.2.2.1/\1<=c.2.1/\c.2.1<=a.size/\2<=c.2.2.1/\c.2.2.1<=b.size/\N<=c.2.2.2.1.size
def L0h(C:Cmp prog w A E s kd O)(a b:Array Keyed)(N:Nat)(c:HC):Prop :=
 c.1=none/\HI C a b c.2.2.2.1 c.2.1 c.2.2.1/\1<=c.2.1/\c.2.1<=a.size/\2<=c.2.2.1/\c.2.2.1<=b.size/\N<=c.2.2.2.1.size
def Step1(C:Cmp prog w A E s kd O)(a b:Array Keyed)(N:Nat)(st:SortSt)(r:ForInStep HB)(st':SortSt):Prop:=match r with
 | .done c=>st'=st/\((∃x,c.1=some x/\MR C a b x)\/L1h C a b N c)
 | .yield c=>st'=st/\L1h C a b N c
def qU(C:Cmp prog w A E s kd O)(a b:Array Keyed)(N:Nat)(st:SortSt)(r:ForInStep HC)(st':SortSt):Prop:=match r with
 | .done c=>Eqv st st'/\∃x,c.1=some x/\MR C a b x
 | .yield c=>Eqv st st'/\L0h C a b N c
theorem hiP_ok(T:Two C a b)(hk':kindOf st=kd)(hI':HI C a b ou' m' n')(hm':1<=m')(hma':m'<=a.size)(hn':2<=n')(hnb2:n'<=b.size)(hN:N<=ou'.size) :
  wpS (model prog w) A E s (hiP a b g (none,m',n',ou',ca,cb)) (Step1 C a b (N+1) st) st:=by
 unfold hiP;dsimp only;refine wpS_bind (aM (by lia) fun p hp=>wpS_bind (aM (by lia) fun q hq=>?_));refine wpS_bind (C.ask p q st _ (bc T.gb hp) (bc T.ga hq) hk' ?_)
 cases hz:O.blt (C.key p) (C.key q) with
 | true =>
  dsimp only;rw[qaf rfl];refine wpS_bind (aM (by lia) fun q' hq'=>?_);rw[hq] at hq';cases hq';have em:m'=m' - 1+1:=by lia
  have h2:HI C a b (ou'.push q) (m' - 1) n':=by
   have h':=hI';rw[em] at h';exact h'.pushA T.sa T.sb hq (by lia) hnb2 (fun p' hp'=>by rw[hp] at hp';cases hp';exact KeyOrd.kle_of_klt hz)
  have hs2:(ou'.push q).size=ou'.size+1:=qbj ..;by_cases z3:m' - 1=0
  ·rw[qaf (by simpa using z3)];exact wpS_pure ⟨rfl,.inl ⟨_,rfl,h2.all T.sa T.sb (.inl z3)⟩⟩
  ·rw[qai (by simpa using z3)];split
   ·exact wpS_pure ⟨rfl,.inr ⟨rfl,h2,by lia,by lia,hn',hnb2,by rw[hs2];lia⟩⟩
   ·exact wpS_pure ⟨rfl,rfl,h2,by lia,by lia,hn',hnb2,by rw[hs2];lia⟩
 | false =>
  dsimp only;rw[qai (by simp)];refine wpS_bind (aM (by lia) fun p' hp'=>?_);rw[hp] at hp';cases hp';have en:n'=n' - 1+1:=by lia
  have h2:HI C a b (ou'.push p) m' (n' - 1):=by
   have h':=hI';rw[en] at h';exact h'.pushB T.sa T.sb hp hm' hma' (fun q' hq'=>by rw[hq] at hq';cases hq';exact hz)
  have hs2:(ou'.push p).size=ou'.size+1:=qbj ..;by_cases z3:n' - 1=1
  ·rw[qaf (by simpa using z3)];exact wpS_pure ⟨rfl,.inl ⟨_,rfl,h2.one T z3⟩⟩
  ·rw[qai (by simpa using z3)];split
   ·exact wpS_pure ⟨rfl,.inr ⟨rfl,h2,hm',hma',by lia,by lia,by rw[hs2];lia⟩⟩
   ·exact wpS_pure ⟨rfl,rfl,h2,hm',hma',by lia,by lia,by rw[hs2];lia⟩
theorem hiE_ok(ev:Eqv st0 st)(hc:(∃x,c.1=some x/\MR C a b x)\/LIh C a b N c):wpS (model prog w) A E s (hiE c) (qU C a b N st0) st:=by
 obtain⟨c1,m3,n3,ou3,g3,ca3,cb3⟩:=c;rcases hc with ⟨r,hr,mr⟩|⟨hc,hr⟩
 ·cases hr;exact wpS_pure ⟨ev,r,rfl,mr⟩
 ·cases hc;unfold hiE;dsimp only;rw[iF];exact wpS_bind (wpS_modify (wpS_pure ⟨ev.trans ⟨rfl,rfl,rfl,rfl⟩,rfl,hr⟩))
theorem hiG_ok(T:Two C a b)(hk:kindOf st=kd)(h:LIh C a b N c):wpS (model prog w) A E s (hiG a b c) (jT C a b N st) st:=by
 obtain⟨_,i3,hm3,hma3,hn3,hnb3,hN3⟩:=h;unfold hiG;split
 ·exact pU T hk i3 hm3 hma3 hn3 hnb3 hN3
 ·exact pU T hk i3 hm3 hma3 hn3 hnb3 hN3
theorem hiD_ok(T:Two C a b)(hk:kindOf st=kd)(ev:Eqv st0 st)(hc:(∃x,c.1=some x/\MR C a b x)\/L1h C a b N c):wpS (model prog w) A E s (hiD a b g c) (qU C a b N st0) st:=by
 obtain⟨c1,m',n',ou',ca,cb⟩:=c;rcases hc with ⟨r,hr,mr⟩|⟨hc,hr⟩
 ·cases hr;exact wpS_pure ⟨ev,r,rfl,mr⟩
 ·cases hc;unfold hiD;dsimp only;refine wpS_bind (wpS_lift (wpAny_rule ⟨rfl,?_⟩));refine wpS_bind (wpS_mono (wpS_forRange (I:=fun y c st3=>Eqv st st3/\LIh C a b N c) (Q:=fun c st3=>Eqv st st3/\((∃x,c.1=some x/\MR C a b x)\/LIh C a b N c)) ?_ ?_ ⟨Eqv.rfl',rfl,hr⟩) ?_)
  ·rintro y c st3 _ hy ⟨ev3,h3⟩;refine wpS_mono (hiG_ok T (ev3.kind.trans hk) h3) fun r st4 hr=>?_
   cases r with
   | done c'=>exact⟨ev3.trans hr.1,hr.2⟩
   | yield c'=>exact⟨ev3.trans hr.1,hr.2⟩
  ·rintro c st3 ⟨ev3,hli⟩;exact⟨ev3,.inr hli⟩
  ·rintro c st3 ⟨ev3,hc⟩;exact hiE_ok (ev.trans ev3) hc
theorem hiO_ok(T:Two C a b)(hk:kindOf st=kd)(h:L0h C a b N c):wpS (model prog w) A E s (hiO a b c) (qU C a b (N+1) st) st:=by
 obtain⟨c1,m,n,ou,g⟩:=c;obtain⟨hc,hI,hm,hma,hn,hnb',hsz⟩:=h;cases hc;unfold hiO
 refine wpS_bind (wpS_mono (wpS_forRange (I:=fun y c st''=>st''=st/\L1h C a b (N+y) c)
  (Q:=fun c st''=>st''=st/\((∃x,c.1=some x/\MR C a b x)\/L1h C a b (N+1) c)) ?_ ?_ ⟨rfl,rfl,hI,hm,hma,hn,hnb',hsz⟩) ?_)
 ·rintro y c st'' _ hy ⟨rfl,h1⟩;obtain⟨c1,m',n',ou',ca,cb⟩:=c;obtain⟨hc,hI',hm',hma',hn',hnb2,hsz'⟩:=h1;cases hc;refine wpS_mono (hiP_ok T hk hI' hm' hma' hn' hnb2 hsz') fun r st4 hr=>?_
  cases r with
  | done c'=>exact⟨hr.1,hr.2.imp_right fun h=>⟨h.1,h.2.1,h.2.2.1,h.2.2.2.1,h.2.2.2.2.1,h.2.2.2.2.2.1,qaA (by lia) h.2.2.2.2.2.2⟩⟩
  | yield c'=>exact hr
 ·rintro c st'' ⟨rfl,h⟩
  have:=T.na
  exact⟨rfl,.inr ⟨h.1,h.2.1,h.2.2.1,h.2.2.2.1,h.2.2.2.2.1,h.2.2.2.2.2.1,qaA (by lia) h.2.2.2.2.2.2⟩⟩
 ·rintro c st'' ⟨rfl,hc⟩;exact hiD_ok T hk Eqv.rfl' hc
theorem hiZ_ok(T:Two C a b)(hk:kindOf st=kd)(h1:HI C a b #[x0] (a.size - 1) b.size)(hm:1<=a.size - 1)(hn:2<=b.size)(h:∀x st',Eqv st st'->MR C a b x->Q x st'):wpS (model prog w) A E s (hiZ a b x0) Q st:=by
 unfold hiZ;refine wpS_bind (wpS_get ?_)
 refine wpS_bind (wpS_mono (wpS_forRange (I:=fun x c st'=>Eqv st st'/\L0h C a b (x+1) c)
  (Q:=fun c st'=>Eqv st st'/\∃x,c.1=some x/\MR C a b x) ?_ ?_ ⟨Eqv.rfl',rfl,h1,hm,Nat.sub_le _ _,hn,qag _,qag _⟩) ?_)
 ·rintro x c st' _ hx ⟨ev,h0⟩;refine wpS_mono (hiO_ok T (ev.kind.trans hk) h0) fun r st4 hr=>?_
  cases r with
  | done c'=>exact⟨ev.trans hr.1,hr.2⟩
  | yield c'=>exact⟨ev.trans hr.1,hr.2⟩
 ·rintro c st' ⟨ev,h0⟩;exfalso
  have:=h0.2.1.size h0.2.2.2.1 h0.2.2.2.2.2.1
  have:=h0.2.2.2.2.2.2
  lia
 ·rintro c st' ⟨ev,r,hr,mr⟩;obtain⟨c1,c2⟩:=c;cases hr;exact wpS_pure (h r st' ev mr)
theorem wps_hi(T:Two C a b)(hk:kindOf st=kd)(h:∀x st',Eqv st st'->MR C a b x->Q x st'):wpS (model prog w) A E s (gf a b) Q st:=by
 rw[hi_n];refine wpS_bind (wpS_lift (wpAny_rule ⟨rfl,?_⟩));have hna:=T.na;have hnb:=T.nb;refine wpS_bind (aM (by lia) fun x0 hx0=>?_)
 have h0:HI C a b #[] a.size b.size:=⟨by
   have e1:a.toList.take a.size=a.toList:=qaW (by simp);have e2:b.toList.take b.size=b.toList:=qaW (by simp)
   rw[e1,e2];simp,by unfold LS;simp,fun x _ y hy=>by simp at hy⟩
 have h1:HI C a b #[x0] (a.size - 1) b.size:=by
  have e:a.size=a.size - 1+1:=by lia
  have h':HI C a b #[] (a.size - 1+1) b.size:=by rw[<-e];exact h0
  have:=h'.pushA T.sa T.sb hx0 hnb (qag _) (fun q hq=>T.lst q x0 (qaE.mpr ⟨_,by rw[qaF];exact hq⟩) hx0)
  simpa using this
 by_cases z1:a.size - 1=0
 ·rw[qaf (by simpa using z1)];exact wpS_pure (h _ st Eqv.rfl' (h1.all T.sa T.sb (.inl z1)))
 ·rw[qai (by simpa using z1)];by_cases z2:b.size=1
  ·rw[qaf (by simpa using z2)];exact wpS_pure (h _ st Eqv.rfl' (h1.one T z2))
  ·rw[qai (by simpa using z2)];exact hiZ_ok T hk h1 (by lia) (by lia) h
end
theorem oC(i:Nat):mergeAt' i=(do
 let c <-get
 let (some (sa,na,pw),some (sb,nb,_)):=((pendingOf c)[i]?,(pendingOf c)[i+1]?)|unsupported "internal:list.sort.pending"
 set (setPending c (((pendingOf c).setIfInBounds i (sa,na+nb,pw)).eraseIdxIfInBounds (i+1)))
 let some k <-gallop' false (<-elem' (arrOf c) sb) (arrOf c) sa na 0|return false
 let (sa,na):=(sa+k,na - k)
 if na == 0 then return true
 let some nb <-gallop' true (<-elem' (arrOf c) (sa+na - 1)) (arrOf c) sb nb (nb - 1)|return false
 if nb == 0 then return true
 let x:=(arrOf c).extract sa sb
 let y:=(arrOf c).extract sb (sb+nb)
 let ou <-if na<=nb then fT x y else gf x y
 modify fun c=>setArr c (ou.toList.zipIdx.foldl (fun a (p,j)=>a.setIfInBounds (sa+j) p) (arrOf c))
 return (failedOf (<-get)).isNone):=rfl
theorem lay_get(off:Nat):∀(l:List Keyed) (q:Nat) (xs:Array Keyed) (i:Nat),((l.zipIdx q).foldl (fun a (p:Keyed × Nat)=>a.setIfInBounds (off+p.2) p.1) xs)[i]? =
  if off+q<=i/\i<off+q+l.length/\i<xs.size then l[i - (off+q)]? else xs[i]?:=by
 intro l
 induction l with
 | nil=>intro q xs i;rw[qai (by simp;lia)];rfl
 | cons p l ih =>
  intro q xs i;rw[List.zipIdx_cons,List.foldl_cons,ih];simp only[Array.size_setIfInBounds,qaM];by_cases h1:off+q=i
  ·subst h1;rw[qai (by lia),qbY];by_cases h2:off+q<xs.size
   ·have h3:off+q<=off+q/\off+q<off+q+(l.length+1)/\off+q<xs.size:=⟨by lia,by lia,h2⟩;simp[h2,h3]
   ·have h3:¬(off+q<=off+q/\off+q<off+q+(l.length+1)/\off+q<xs.size):=fun z=>h2 z.2.2;rw[qai h3];simp[h2]
  ·by_cases h2:off+(q+1)<=i/\i<off+(q+1)+l.length/\i<xs.size
   ·rw[qaf h2,qaf (by lia)];obtain⟨d,hd⟩:∃d,i - (off+q)=d+1:=⟨i - (off+q) - 1,by lia⟩;have hd2:i - (off+(q+1))=d:=by lia
    rw[hd,hd2,qci]
   ·rw[qai h2,qbY,qai h1];by_cases h3:off+q<=i/\i<off+q+(l.length+1)/\i<xs.size
    ·exfalso;lia
    ·rw[qai h3]
theorem tI{xs ou:Array Keyed}{off:Nat}(h:off+ou.size<=xs.size) :
  (ou.toList.zipIdx.foldl (fun a (p:Keyed × Nat)=>a.setIfInBounds (off+p.2) p.1) xs).toList=xs.toList.take off++(ou.toList++xs.toList.drop (off+ou.size)):=by
 apply qbO;intro i;rw[qaF,lay_get];have hl:(xs.toList.take off).length=off:=by simp;lia
 by_cases h1:i<off
 ·rw[qai (by lia),qaj (by lia),qbG h1,qaF]
 ·rw[qau (by lia),hl];by_cases h2:i<off+ou.size
  ·rw[qaf ⟨by lia,by simpa using h2,by lia⟩,qaj (by simp;lia)];congr 1
  ·rw[qai (by simp;lia),qau (by simp;lia),qce,qaF];congr 1;simp;lia
section
variable {prog:Program} {w:World} {A:Around} {E:Value→Shared→Prop} {s:Shared} {kd:SortKind} {O:KeyOrd} {C:Cmp prog w A E s kd O} {a₀:Array Keyed} {st:SortSt}
theorem d4{xs:Array Keyed}{lo hi i j:Nat}(h:Srt C xs lo hi)(hi':lo<=i)(hij:i<=j)(hj:j<hi){p q:Keyed}(hp:xs[i]?=some p)(hq:xs[j]?=some q):O.kle (C.key p) (C.key q):=by
 have:=h i j hi' hij hj
 rw[aJ hp,aJ hq] at this;exact this
theorem pd{xs:Array Keyed}{lo hi:Nat}{p:Keyed}(hhi:hi<=xs.size)(h:p∈(xs.extract lo hi).toList):∃i,lo<=i/\i<hi/\xs[i]?=some p:=by
 obtain⟨q,hq⟩:=qaE.mp h;rw[qaF,qbM] at hq
 split at hq
 ·rename_i h1
  exact⟨lo+q,by lia,by lia,hq⟩
 ·cases hq
theorem split3{xs:Array Keyed}{i j k:Nat}(h1:i<=j)(h2:j<=k)(h3:k<=xs.size):xs.toList=xs.toList.take i++((xs.extract i j).toList++(xs.extract j k).toList++xs.toList.drop k):=by
 have e1:(xs.extract i j).toList=(xs.toList.drop i).take (j - i):=by simp[qaD]
 have e2:(xs.extract j k).toList=(xs.toList.drop j).take (k - j):=by simp[qaD]
 rw[e1,e2];have a1:(xs.toList.drop j).take (k - j)++xs.toList.drop k=xs.toList.drop j:=by
  have:=qba (k - j) (xs.toList.drop j)
  rw[List.drop_drop] at this;have e:j+(k - j)=k:=by lia
  rw[e] at this;exact this
 have a2:(xs.toList.drop i).take (j - i)++xs.toList.drop j=xs.toList.drop i:=by
  have:=qba (j - i) (xs.toList.drop i)
  rw[List.drop_drop] at this;have e:i+(j - i)=j:=by lia
  rw[e] at this;exact this
 rw[qaX,a1,a2,qba]
theorem oG{n1 pw:Nat}{Q:Bool->SortSt->Prop}(h0:bJ C a₀)(hB:SB kd a₀ st)(h1:1<=n1)(h2:n1<a₀.size)(hp:pendingOf st=#[(0,n1,pw),(n1,a₀.size - n1,0)])
  (hs1:Srt C (arrOf st) 0 n1) (hs2:Srt C (arrOf st) n1 a₀.size)
  (h:∀st',SB kd a₀ st'->(pendingOf st').size=1->Srt C (arrOf st') 0 a₀.size->Q true st'):wpS (model prog w) A E s (mergeAt' 0) Q st:=by
 have hsz:=hB.size;have hg:=hB.good h0;rw[oC];refine wpS_bind (wpS_get ?_);rw[hp];have e0:(#[(0,n1,pw),(n1,a₀.size - n1,0)]:Array (Nat × Nat × Nat))[0]?=some (0,n1,pw):=rfl;have e1:(#[(0,n1,pw),(n1,a₀.size - n1,0)]:Array (Nat × Nat × Nat))[0+1]?=some (n1,a₀.size - n1,0):=rfl;rw[e0,e1];dsimp only;refine wpS_bind ?_;have hset:∀(c:SortSt) (Q':PUnit->SortSt->Prop),Q' ⟨⟩ c->wpS (model prog w) A E s (set c:StateT SortSt Sem PUnit) Q' st:=fun c Q' hq=>by
  unfold wpS;rw[StateT.run_set];exact qaw ⟨rfl,hq⟩
 refine hset _ _ ?_;obtain⟨st1,hst1⟩:∃c,c=setPending st (((#[(0,n1,pw),(n1,a₀.size - n1,0)]:Array (Nat × Nat × Nat)).setIfInBounds 0 (0,n1+(a₀.size - n1),pw)).eraseIdxIfInBounds (0+1)):=⟨_,rfl⟩;rw[<-hst1];have hB1:SB kd a₀ st1:=by rw[hst1];exact⟨hB.perm,hB.kind,hB.failed⟩
 have hp1:(pendingOf st1).size=1:=by rw[hst1];simp[pendingOf]
 have ha1:arrOf st1=arrOf st:=by rw[hst1]
 clear hst1;have whole:Srt C (arrOf st) 0 n1->Srt C (arrOf st) n1 a₀.size->(∀i j,i<n1->n1<=j->j<a₀.size->O.kle (kk C (arrOf st) i) (kk C (arrOf st) j))->Srt C (arrOf st1) 0 a₀.size:=by
  intro g1 g2 g3 i j _ hij hj;rw[ha1];by_cases c1:j<n1
  ·exact g1 i j (qaG _) hij c1
  ·by_cases c2:i<n1
   ·exact g3 i j c2 (by lia) hj
   ·exact g2 i j (by lia) hij hj
 refine wpS_bind (aM (by lia) fun b0 hb0=>?_);refine wpS_bind (cx (C:=C) hB1.kind hg (bc hg hb0) (by lia) (by lia) (by rw[qaZ];exact hs1) fun k hk hlo hhi=>?_);have hlo':∀r p,r<k->(arrOf st)[r]?=some p->O.kle (C.key p) (C.key b0):=fun r p hr hp'=>by
  have:=hlo r hr
  unfold ahead at this;rw[qaZ,aJ hp'] at this;simp only[qam,if_false,qbp] at this;exact this
 have hhi':∀r p,k<=r->r<n1->(arrOf st)[r]?=some p->O.kle (C.key b0) (C.key p):=fun r p hr1 hr2 hp'=>by
  have:=hhi r hr1 hr2
  unfold ahead at this;rw[qaZ,aJ hp'] at this;simp only[qam,if_false,qcf] at this;exact KeyOrd.kle_of_klt this
 dsimp only;rw[qaZ];have getP:∀i,i<a₀.size->∃p,(arrOf st)[i]?=some p:=fun i hi=>⟨_,getElem?_pos _ i (by lia)⟩;by_cases z1:n1 - k=0
 ·rw[qaf (by simpa using z1)];refine wpS_pure (h st1 hB1 hp1 (whole hs1 hs2 fun i j hi hj1 hj2=>?_));obtain⟨p,hp'⟩:=getP i (by lia);obtain⟨q,hq'⟩:=getP j hj2;rw[aJ hp',aJ hq'];exact KeyOrd.kle_trans (hlo' i p (by lia) hp') (d4 hs2 (qag _) hj1 hj2 hb0 hq')
 ·rw[qai (by simpa using z1)];have ez:k+(n1 - k) - 1=n1 - 1:=by lia
  rw[ez];refine wpS_bind (aM (by lia) fun al hal=>?_);refine wpS_bind (cx (C:=C) hB1.kind hg (bc hg hal) (by lia) (by lia) (by have e:n1+(a₀.size - n1)=a₀.size:=(by lia);rw[e];exact hs2) fun m hm hlo2 hhi2=>?_);have hlo2':∀r p,n1<=r->r<n1+m->(arrOf st)[r]?=some p->O.kle (C.key p) (C.key al):=fun r p hr1 hr2 hp'=>by
   have:=hlo2 (r - n1) (by lia)
   have e:n1+(r - n1)=r:=by lia
   unfold ahead at this;rw[e,aJ hp'] at this;exact KeyOrd.kle_of_klt this
  have hhi2':∀r p,n1+m<=r->r<a₀.size->(arrOf st)[r]?=some p->O.kle (C.key al) (C.key p):=fun r p hr1 hr2 hp'=>by
   have:=hhi2 (r - n1) (by lia) (by lia)
   have e:n1+(r - n1)=r:=by lia
   unfold ahead at this;rw[e,aJ hp'] at this;exact this
  dsimp only;by_cases z2:m=0
  ·rw[qaf (by simpa using z2)];refine wpS_pure (h st1 hB1 hp1 (whole hs1 hs2 fun i j hi hj1 hj2=>?_));obtain⟨p,hp'⟩:=getP i (by lia);obtain⟨q,hq'⟩:=getP j hj2;rw[aJ hp',aJ hq'];exact KeyOrd.kle_trans (d4 hs1 (qaG _) (by lia) (by lia) hp' hal) (hhi2' j q (by lia) hj2 hq')
  ·rw[qai (by simpa using z2)];have sx:((arrOf st).extract k n1).size=n1 - k:=by simp;lia
   have sy:((arrOf st).extract n1 (n1+m)).size=m:=by simp;lia
   have gx:∀r,r<n1 - k->((arrOf st).extract k n1)[r]?=(arrOf st)[k+r]?:=fun r hr=>by rw[qbM,qaf (by lia)]
   have gy:∀r,r<m->((arrOf st).extract n1 (n1+m))[r]?=(arrOf st)[n1+r]?:=fun r hr=>by rw[qbM,qaf (by lia)]
   have memx:∀p,p∈((arrOf st).extract k n1).toList->∃i,k<=i/\i<n1/\(arrOf st)[i]?=some p:=fun p hp'=>pd (by lia) hp';have memy:∀p,p∈((arrOf st).extract n1 (n1+m)).toList->∃i,n1<=i/\i<n1+m/\(arrOf st)[i]?=some p:=fun p hp'=>pd (by lia) hp';have T:Two C ((arrOf st).extract k n1) ((arrOf st).extract n1 (n1+m)):=by
    refine⟨fun p hp'=>?_,fun p hp'=>?_,jS (by lia) fun i j a b c=>hs1 i j (qaG _) b c,jS (by lia) fun i j a b c=>hs2 i j a b (by lia),by lia,by lia,?_,?_⟩
    ·obtain⟨i,_,_,hi⟩:=memx p hp';exact bc hg hi
    ·obtain⟨i,_,_,hi⟩:=memy p hp';exact bc hg hi
    ·intro p q hp' hq';rw[gy 0 (by lia)] at hp';rw[gx 0 (by lia)] at hq';have e:(arrOf st)[n1+0]?=some b0:=hb0;rw[e] at hp';cases hp';exact hhi' (k+0) q (by lia) (by lia) hq'
    ·intro x q hx hq';obtain⟨i,i1,i2,hi⟩:=memy x hx;rw[sx,gx _ (by lia)] at hq';have e:k+(n1 - k - 1)=n1 - 1:=by lia
     rw[e,hal] at hq';cases hq';exact hlo2' i x i1 i2 hi
   have fin:∀ou st2,Eqv st1 st2->MR C ((arrOf st).extract k n1) ((arrOf st).extract n1 (n1+m)) ou ->
     wpS (model prog w) A E s (do
      modify fun c=>setArr c (ou.toList.zipIdx.foldl (fun a (p:Keyed × Nat)=>a.setIfInBounds (k+p.2) p.1) (arrOf c))
      return (failedOf (<-get)).isNone) Q st2:=by
    intro ou st2 ev mr;refine wpS_bind (wpS_modify ?_);refine wpS_bind (wpS_get (wpS_pure ?_));have ea:arrOf st2=arrOf st:=ev.arr.trans ha1;have so:ou.size=n1 - k+m:=by
     have:=mr.1.length_eq
     rw[qaR,qaN,qaR,qaR,sx,sy] at this;exact this
    have hl:=tI (xs:=arrOf st2) (ou:=ou) (off:=k) (by rw[ea];lia);have eo:k+ou.size=n1+m:=by lia
    rw[eo,ea] at hl;have hsp:=split3 (xs:=arrOf st) (i:=k) (j:=n1) (k:=n1+m) (by lia) (by lia) (by lia);have hfn:(failedOf (setArr st2 (ou.toList.zipIdx.foldl (fun a (p:Keyed × Nat)=>a.setIfInBounds (k+p.2) p.1) (arrOf st2)))).isNone=true:=by
     show (failedOf st2).isNone=true;rw[ev.failed,hB1.failed];rfl
    rw[hfn];have hls:LS C (ou.toList.zipIdx.foldl (fun a (p:Keyed × Nat)=>a.setIfInBounds (k+p.2) p.1) (arrOf st2)).toList:=by
     rw[ea,hl];have mo:∀p,p∈ou.toList->(∃i,k<=i/\i<n1/\(arrOf st)[i]?=some p)\/(∃i,n1<=i/\i<n1+m/\(arrOf st)[i]?=some p):=fun p hp' =>
      (qav.mp (mr.1.mem_iff.mp hp')).imp (memx p) (memy p)
     have mt:∀p,p∈(arrOf st).toList.take k->∃i,i<k/\(arrOf st)[i]?=some p:=fun p hp'=>by
      obtain⟨i,hi⟩:=qaE.mp hp';by_cases c:i<k
      ·rw[qbG c,qaF] at hi;exact⟨i,c,hi⟩
      ·rw[qbf (by simp;lia)] at hi;cases hi
     have md:∀p,p∈(arrOf st).toList.drop (n1+m)->∃i,n1+m<=i/\i<a₀.size/\(arrOf st)[i]?=some p:=fun p hp'=>by
      obtain⟨i,hi⟩:=qaE.mp hp';rw[qce,qaF] at hi
      have:=(qaU.mp hi).1
      exact⟨n1+m+i,by lia,by lia,hi⟩
     refine bC ?_ (bC mr.2 ?_ ?_) ?_
     ·have:=jS (C:=C) (xs:=arrOf st) (lo:=0) (hi:=k) (by lia) fun i j a b c=>hs1 i j a b (by lia)
      rw[eI] at this;exact this
     ·have:=jS (C:=C) (xs:=arrOf st) (lo:=n1+m) (hi:=(arrOf st).size) (qag _) fun i j a b c=>hs2 i j (by lia) b (by lia)
      rw[eJ] at this;exact this
     ·intro x hx y hy;obtain⟨j,j1,j2,hj⟩:=md y hy;rcases mo x hx with ⟨i,i1,i2,hi⟩|⟨i,i1,i2,hi⟩
      ·exact KeyOrd.kle_trans (d4 hs1 (qaG _) (by lia) (by lia) hi hal) (hhi2' j y j1 j2 hj)
      ·exact d4 hs2 i1 (by lia) j2 hi hj
     ·intro x hx y hy;obtain⟨i,i1,hi⟩:=mt x hx;rcases qav.mp hy with hy|hy
      ·rcases mo y hy with ⟨j,j1,j2,hj⟩|⟨j,j1,j2,hj⟩
       ·exact d4 hs1 (qaG _) (by lia) j2 hi hj
       ·exact KeyOrd.kle_trans (hlo' i x i1 hi) (d4 hs2 (qag _) j1 (by lia) hb0 hj)
      ·obtain⟨j,j1,j2,hj⟩:=md y hy;exact KeyOrd.kle_trans (hlo' i x i1 hi) (d4 hs2 (qag _) (by lia) j2 hb0 hj)
    have hpm:(ou.toList.zipIdx.foldl (fun a (p:Keyed × Nat)=>a.setIfInBounds (k+p.2) p.1) (arrOf st2)).Perm (arrOf st):=by
     rw[qbx,ea,hl];refine List.Perm.trans ?_ (List.Perm.of_eq hsp.symm);exact List.Perm.append_left _ (List.Perm.append_right _ mr.1)
    refine h _ ⟨hpm.trans hB.perm,ev.kind.trans hB1.kind,ev.failed.trans hB1.failed⟩ ?_ ?_
    ·show (pendingOf st2).size=1;rw[ev.pend];exact hp1
    ·have:=hV hls
     have e2:(ou.toList.zipIdx.foldl (fun a (p:Keyed × Nat)=>a.setIfInBounds (k+p.2) p.1) (arrOf st2)).size=a₀.size:=(hpm.trans hB.perm).size_eq;rw[e2] at this;exact this
   by_cases hle:n1 - k<=m
   ·rw[qaf hle];refine wpS_bind (wps_lo T hB1.kind fun ou st2 ev mr=>?_);exact fin ou st2 ev mr
   ·rw[qai hle];refine wpS_bind (wps_hi T hB1.kind fun ou st2 ev mr=>?_);exact fin ou st2 ev mr
end
theorem mf(h2:2<=n)(h:n<64):minRun' n n 0=n:=by
 obtain⟨f,hf⟩:∃f,n=f+1:=⟨n - 1,by lia⟩
 have:minRun' (f+1) n 0=n+0:=by rw[minRun'_succ,qaf h]
 rw[<-hf] at this;exact this
theorem sY(h2:2<=n)(h:n<=66):1<=minRun' n n 0/\minRun' n n 0<=n/\n<=2 * minRun' n n 0:=by
 by_cases c:n<64
 ·rw[mf h2 c];lia
 ·have:n=64\/n=65\/n=66:=by lia
  rcases this with e|e | e <;> subst e
  ·have:minRun' 64 64 0=32:=by decide
   rw[this];lia
  ·have:minRun' 65 65 0=33:=by decide
   rw[this];lia
  ·have:minRun' 66 66 0=33:=by decide
   rw[this];lia
section
variable {prog:Program} {w:World} {A:Around} {E:Value→Shared→Prop} {s:Shared} {kd:SortKind} {O:KeyOrd} {C:Cmp prog w A E s kd O} {a₀:Array Keyed} {st:SortSt}
def One(C:Cmp prog w A E s kd O)(a₀:Array Keyed)(mr n1:Nat)(st:SortSt):Prop:=SB kd a₀ st/\pendingOf st=#[(0,n1,0)]/\mr<=n1/\n1<=a₀.size/\Srt C (arrOf st) 0 n1
def Both(C:Cmp prog w A E s kd O)(a₀:Array Keyed)(n1:Nat)(st:SortSt):Prop :=
 SB kd a₀ st/\1<=n1/\n1<a₀.size/\(∃pw,pendingOf st=#[(0,n1,pw),(n1,a₀.size - n1,0)])/\Srt C (arrOf st) 0 n1/\Srt C (arrOf st) n1 a₀.size
theorem nG{xs ys:Array Keyed}{p lo hi:Nat}(h:bM p xs ys)(hhi:hi<=p)(g:Srt C xs lo hi):Srt C ys lo hi:=by
 intro i j hi' hij hj;rw[cR (h i (by lia)),cR (h j (by lia))];exact g i j hi' hij hj
theorem ug(h0:bJ C a₀)(hB:SB kd a₀ st)(hpd:pendingOf st=#[])(h2:2<=a₀.size)(h66:a₀.size<=66)
  (h:∀st',(arrOf st').Perm a₀->failedOf st'=none->Srt C (arrOf st') 0 a₀.size->Q () st'):wpS (model prog w) A E s sortRuns' Q st:=by
 obtain⟨m1,m2,m3⟩:=sY h2 h66;rw[sortRuns'_eq];refine wpS_bind (wpS_get ?_);dsimp only;rw[hB.size];generalize minRun' a₀.size a₀.size 0=mr at m1 m2 m3 ⊢
 refine wpS_bind (wpS_mono (wpS_forRange
  (I:=fun x c st'=>(x=0/\c=(none,0)/\SB kd a₀ st'/\pendingOf st'=#[])\/(x=1/\∃n1,c=(none,n1)/\One C a₀ mr n1 st')\/(2<=x/\c=(none,a₀.size)/\∃n1,Both C a₀ n1 st'))
  (Q:=fun c st'=>c=(none,a₀.size)/\(One C a₀ mr a₀.size st'\/∃n1,Both C a₀ n1 st')) ?_ ?_ (.inl ⟨rfl,rfl,hB,hpd⟩)) ?_)
 ·rintro x c st' _ hx (⟨rfl,rfl,hB',hp'⟩|⟨rfl,n1,rfl,hB',hp',hr1,hr2,hs'⟩|⟨hx2,rfl,n1,hb⟩)
  ·dsimp only;rw[qai (by lia)];simp only[qcw,qaZ];refine wpS_bind (oM (p:=0) h0 (by lia) (by lia) hB' fun m st2 hB2 _ hpe hm1 hm2 hs2=>?_);rw[qaZ] at hs2;dsimp only;by_cases hlt:m<mr
   ·rw[qaf hlt];refine wpS_bind (wpS_lift (wpAny_rule ⟨rfl,?_⟩));refine wpS_bind (oV (p:=0) h0 (by lia) (by lia) hB2 (by rw[qaZ];exact hs2) fun st3 hB3 _ hpe3 hs3=>?_);simp only[qbr,qam,if_false];refine wpS_bind (wpS_get ?_);have hb:(pendingOf st3).back?=none:=by rw[hpe3,hpe,hp'];rfl
    rw[hb];dsimp only;refine wpS_bind (wpS_modify (wpS_pure (.inr (.inl ⟨trivial,_,rfl,⟨hB3.perm,hB3.kind,hB3.failed⟩,?_,by lia,by lia,?_⟩))))
    ·show (pendingOf st3).push _=_;rw[hpe3,hpe,hp'];rfl
    ·rw[qaZ] at hs3;exact hs3
   ·rw[qai hlt];refine wpS_bind (wpS_get ?_);have hb:(pendingOf st2).back?=none:=by rw[hpe,hp'];rfl
    rw[hb];dsimp only;refine wpS_bind (wpS_modify (wpS_pure (.inr (.inl ⟨trivial,_,rfl,⟨hB2.perm,hB2.kind,hB2.failed⟩,?_,by lia,by lia,hs2⟩))));show (pendingOf st2).push _=_;rw[hpe,hp'];rfl
  ·dsimp only;by_cases hend:n1>=a₀.size
   ·rw[qaf hend];have e:n1=a₀.size:=by lia
    subst e;exact wpS_pure ⟨rfl,.inl ⟨hB',hp',hr1,hr2,hs'⟩⟩
   ·rw[qai hend];have hrest:a₀.size - n1<=mr:=by lia
    refine wpS_bind (oM (p:=n1) h0 (by lia) (by lia) hB' fun m st2 hB2 hsm hpe hm1 hm2 hs2=>?_);dsimp only;by_cases hlt:m<mr
    ·rw[qaf hlt];refine wpS_bind (wpS_lift (wpAny_rule ⟨rfl,?_⟩));have em:min (a₀.size - n1) mr=a₀.size - n1:=by lia
     rw[em];refine wpS_bind (oV (p:=n1) h0 (by lia) (by lia) hB2 hs2 fun st3 hB3 hsm3 hpe3 hs3=>?_);simp only[qbr,qam,if_false];refine wpS_bind (wpS_get ?_);have hp3:pendingOf st3=#[(0,n1,0)]:=by rw[hpe3,hpe,hp']
     have hb:(pendingOf st3).back?=some (0,n1,0):=by rw[hp3];rfl
     rw[hb];dsimp only;refine wpS_bind (wpS_mono (wpS_forRange (I:=fun _ c st4=>c=(none,())/\st4=st3) (Q:=fun c st4=>c=(none,())/\st4=st3) ?_ (fun _ _ hh=>hh) ⟨rfl,rfl⟩) ?_)
     ·rintro y c st4 _ _ ⟨rfl,rfl⟩;refine wpS_bind (wpS_get ?_);rw[hp3];exact wpS_pure ⟨rfl,rfl⟩
     ·rintro c st4 ⟨rfl,rfl⟩;dsimp only;refine wpS_bind (wpS_modify (wpS_bind (wpS_modify (wpS_pure (.inr (.inr ⟨by lia,?_,n1,⟨hB3.perm,hB3.kind,hB3.failed⟩,by lia,by lia,⟨power' a₀.size (2 * 0+n1) (2 * 0+n1+n1+(a₀.size - n1)) a₀.size,?_⟩,(nG (hsm.trans hsm3) (qag _) hs'),(by have e:n1+(a₀.size - n1)=a₀.size:=(by lia);rw[e] at hs3;exact hs3)⟩))))))
      ·have e:n1+(a₀.size - n1)=a₀.size:=by lia
       rw[e]
      ·show ((pendingOf st4).modify _ _).push _=_;rw[hp3];simp
    ·rw[qai hlt];have em:m=a₀.size - n1:=by lia
     subst em;refine wpS_bind (wpS_get ?_);have hp2:pendingOf st2=#[(0,n1,0)]:=by rw[hpe,hp']
     have hb:(pendingOf st2).back?=some (0,n1,0):=by rw[hp2];rfl
     rw[hb];dsimp only;refine wpS_bind (wpS_mono (wpS_forRange (I:=fun _ c st4=>c=(none,())/\st4=st2) (Q:=fun c st4=>c=(none,())/\st4=st2) ?_ (fun _ _ hh=>hh) ⟨rfl,rfl⟩) ?_)
     ·rintro y c st4 _ _ ⟨rfl,rfl⟩;refine wpS_bind (wpS_get ?_);rw[hp2];exact wpS_pure ⟨rfl,rfl⟩
     ·rintro c st4 ⟨rfl,rfl⟩;dsimp only;refine wpS_bind (wpS_modify (wpS_bind (wpS_modify (wpS_pure (.inr (.inr ⟨by lia,?_,n1,⟨hB2.perm,hB2.kind,hB2.failed⟩,by lia,by lia,⟨power' a₀.size (2 * 0+n1) (2 * 0+n1+n1+(a₀.size - n1)) a₀.size,?_⟩,(nG hsm (qag _) hs'),(by have e:n1+(a₀.size - n1)=a₀.size:=(by lia);rw[e] at hs2;exact hs2)⟩))))))
      ·have e:n1+(a₀.size - n1)=a₀.size:=by lia
       rw[e]
      ·show ((pendingOf st4).modify _ _).push _=_;rw[hp2];simp
  ·dsimp only;rw[qaf (qag _)];exact wpS_pure ⟨rfl,.inr ⟨n1,hb⟩⟩
 ·rintro c st' (⟨hx,_⟩|⟨hx,_⟩|⟨_,hc,hb⟩)
  ·lia
  ·lia
  ·exact⟨hc,.inr hb⟩
 ·rintro c st' ⟨rfl,hc⟩;dsimp only;rcases hc with ⟨hB',hp',_,_,hs'⟩|⟨n1,hB',n11,n12,⟨pw,hp'⟩,hsA,hsB⟩
  ·refine wpS_bind (wpS_mono (wpS_forRange (I:=fun _ c st''=>st''=st'/\c=(none,())) (Q:=fun c st''=>st''=st'/\c=(none,())) ?_ (fun _ _ hh=>hh) ⟨rfl,rfl⟩) ?_)
   ·rintro x c st'' _ _ ⟨rfl,rfl⟩;refine wpS_bind (wpS_get ?_);rw[qaf (by rw[hp'];exact qag 1)];exact wpS_pure ⟨rfl,rfl⟩
   ·rintro c st'' ⟨rfl,rfl⟩;exact wpS_pure (h _ hB'.perm hB'.failed hs')
  ·refine wpS_bind (wpS_mono (wpS_forRange (I:=fun x c st''=>c=(none,())/\((x=0/\st''=st')\/(1<=x/\SB kd a₀ st''/\(pendingOf st'').size=1/\Srt C (arrOf st'') 0 a₀.size)))
    (Q:=fun c st''=>c=(none,())/\SB kd a₀ st''/\Srt C (arrOf st'') 0 a₀.size) ?_ ?_ ⟨rfl,.inl ⟨rfl,rfl⟩⟩) ?_)
   ·rintro x c st'' _ _ ⟨rfl,hcase⟩;rcases hcase with ⟨rfl,rfl⟩|⟨hx1,b1,b2,b3⟩
    ·refine wpS_bind (wpS_get ?_);rw[qai (by rw[hp'];simp)];rw[hp'];refine wpS_bind (oG (n1:=n1) (pw:=pw) h0 hB' n11 n12 hp' hsA hsB fun st3 c1 c2 c3=>?_);simp only[qbr,qam,if_false];exact wpS_pure ⟨rfl,.inr ⟨by lia,c1,c2,c3⟩⟩
    ·refine wpS_bind (wpS_get ?_);rw[qaf (by rw[b2];exact qag 1)];exact wpS_pure ⟨rfl,b1,b3⟩
   ·rintro c st'' ⟨rfl,⟨hx,_⟩|⟨_,b1,_,b3⟩⟩
    ·lia
    ·exact⟨rfl,b1,b3⟩
   ·rintro c st'' ⟨rfl,b1,b3⟩;exact wpS_pure (h _ b1.perm b1.failed b3)
end
end SortT
namespace SortT
open PySem PyProof.Rows SetT PySem.W
def bx:List Int->List Int->Bool
 | [],[]=>false
 | [],_::_=>true
 | _::_,[]=>false
 | a::x,b::y=>if a=b then bx x y else decide (a<b)
theorem iL:∀x,bx x x=false
 | []=>rfl
 | a::x=>by unfold bx;rw[qaf rfl];exact iL x
theorem jo:∀x y z,bx x y=true->bx y z=true->bx x z=true
 | [],[],z,h,_=>by cases h
 | [],_::_,[],_,h=>by cases h
 | [],_::_,_::_,_,_=>rfl
 | _::_,[],_,h,_=>by cases h
 | _::_,_::_,[],_,h=>by cases h
 | a::x,b::y,c::z,h1,h2=>by
  unfold bx at h1 h2 ⊢;by_cases e1:a=b
  ·rw[qaf e1] at h1;by_cases e2:b=c
   ·rw[qaf e2] at h2;rw[qaf (e1.trans e2)];exact jo x y z h1 h2
   ·rw[qai e2] at h2;rw[qai (fun q=>e2 (e1.symm.trans q)),e1];exact h2
  ·rw[qai e1] at h1;by_cases e2:b=c
   ·rw[qai (fun q=>e1 (q.trans e2.symm)),<-e2];exact h1
   ·rw[qai e2] at h2;simp only[decide_eq_true_eq] at h1 h2;rw[qai (by lia)];simp only[decide_eq_true_eq];lia
theorem mR:∀x y z,bx x z=true->bx x y=true\/bx y z=true
 | [],[],[],h=>by cases h
 | [],[],_::_,_=>.inr rfl
 | [],_::_,_,_=>.inl rfl
 | _::_,_,[],h=>by cases h
 | _::_,[],_::_,_=>.inr rfl
 | a::x,b::y,c::z,h=>by
  unfold bx at h ⊢;by_cases e1:a=b
  ·rw[qaf e1];by_cases e2:b=c
   ·rw[qaf e2];rw[qaf (e1.trans e2)] at h;exact mR x y z h
   ·rw[qai (fun q=>e2 (e1.symm.trans q)),e1] at h;rw[qai e2];exact .inr h
  ·rw[qai e1];by_cases e2:b=c
   ·rw[qaf e2];rw[qai (fun q=>e1 (q.trans e2.symm)),<-e2] at h;exact .inl h
   ·rw[qai e2];by_cases e3:a=c
    ·simp only[decide_eq_true_eq];lia
    ·rw[qai e3] at h;simp only[decide_eq_true_eq] at h ⊢;lia
theorem gp:∀x y,bx x y=false->bx y x=false->x=y
 | [],[],_,_=>rfl
 | [],_::_,h,_=>by cases h
 | _::_,[],_,h=>by cases h
 | a::x,b::y,h1,h2=>by
  unfold bx at h1 h2;by_cases e:a=b
  ·rw[qaf e] at h1;rw[qaf e.symm] at h2;rw[e,gp x y h1 h2]
  ·rw[qai e] at h1;rw[qai (fun q=>e q.symm)] at h2;simp only[decide_eq_false_iff_not] at h1 h2;lia
def lexO:KeyOrd:=⟨List Int,bx,iL,jo,mR,gp⟩
def Ris(l:List (List Int)):Prop:=l.Pairwise fun x y=>bx y x=false
section
variable {prog:Program} {w:World} {A:Around} {E:Value→Shared→Prop} {s:Shared}
noncomputable def tkey(prog:Program)(w:World)(h:Heap)(v:Value):List Int:=Classical.epsilon fun k=>∃a,v=.ref a/\TK prog w h k a
theorem dS(t:TK prog w h k a):tkey prog w h (.ref a)=k:=by
 have:=Classical.epsilon_spec (p:=fun k=>∃b,Value.ref a=.ref b/\TK prog w h k b) ⟨k,a,rfl,t⟩
 obtain⟨b,e,hb⟩:=this;cases e;exact IsTupleKey.inj hb t
theorem lex_ok:∀(xs ys:List Value) (kx ky:List Int) (i:Nat),ItemsAre (intKind prog w) kx xs->ItemsAre (intKind prog w) ky ys->fin=decide (xs.length<ys.length)->Q (bx kx ky) s ->
  KatLex prog w A b fin Q (xs.zip ys) i s:=by
 intro xs
 induction xs with
 | nil =>
  intro ys kx ky i hx hy hf hq;cases hx
  cases hy with
  | nil=>rw[hf];exact hq
  | cons h1 h2=>rw[hf];exact hq
 | cons x xs ih =>
  intro ys kx ky i hx hy hf hq
  cases hx with
  | @cons k1 _ kx' _ h1 hx' =>
   cases hy with
   | nil=>rw[hf];exact hq
   | @cons k2 y ky' ys' h2 hy' =>
    obtain⟨t1,rfl⟩:=Value.isInt_shape (k:=k1) (v:=x) h1;obtain⟨t2,rfl⟩:=Value.isInt_shape (k:=k2) (v:=y) h2;rw[List.zip_cons_cons];refine kat_cons (wpAny_eqBool_int ?_);unfold bx at hq;by_cases e:k1=k2
    ·rw[qaf e] at hq
     have:(k1 == k2)=true:=by simpa using e
     rw[this];exact kat_yes (ih ys' kx' ky' (i+1) hx' hy' (by rw[hf];simp) hq)
    ·rw[qai e] at hq
     have:(k1 == k2)=false:=by simpa using e
     rw[this];refine kat_no ?_
     cases hb:(b && i == 0) with
     | true=>exact oneLt_int hq
     | false=>exact kat_one _ _ (wpAny_lt_int hq)
noncomputable def tcmp(prog:Program)(w:World)(A:Around)(E:Value->Shared->Prop)(s:Shared)(b:Bool):Cmp prog w A E s (tuples' b) lexO where
 key:=fun p=>tkey prog w s.heap p.1
 dflt:=([]:List Int)
 good:=fun p=>∃a k,p.1=.ref a/\TK prog w s.heap k a
 ask:=fun x y st Q gx gy hk hq=>by
  obtain⟨x1,x2⟩:=x;obtain⟨y1,y2⟩:=y;obtain⟨ax,kx,ex,tx⟩:=gx;obtain⟨ay,ky,ey,ty⟩:=gy;simp only at ex ey;subst ex;subst ey;have q':Q (some (bx kx ky)) st:=by
   have h1:=dS tx;have h2:=dS ty;have e:lexO.blt (tkey prog w s.heap (.ref ax)) (tkey prog w s.heap (.ref ay))=bx kx ky:=by rw[h1,h2];rfl
   rw[<-e];exact hq
  obtain⟨ox,ix,nx,hox,_,hdx,hix⟩:=tx;obtain⟨oy,iy,ny,hoy,_,hdy,hiy⟩:=ty;rw[lt'_eq];refine wpS_bind (wpS_get ?_);rw[hk];refine wpS_bind (wpS_lift (wpAny_attempt (kat_lt hox hdx hoy hdy (lex_ok _ _ _ _ _ hix hiy (by simp) ⟨rfl,?_⟩))));exact wpS_pure q'
theorem mV{vs:List Value}{ks:List (List Int)}{Q:SortKind->Shared->Prop}(hk:Lie prog w s.heap vs.toArray ks)(hne:∀k∈ks,k≠[])(h1:0<vs.length)(h:Q (tuples' true) s) :
  wpAny (model prog w) A (keyKind' vs.toArray) Q E s:=by
 have hlen:vs.length=ks.length:=by have:=hk.1;simpa using this
 have key:∀(us:List Value) (ls:List (List Int)),us.length=ls.length->(∀(i:Nat) (v:Value) (k:List Int),us[i]?=some v->ls[i]?=some k->∃a,v=.ref a/\TK prog w s.heap k a)->(∀k∈ls,k≠[]) ->
   ∃fs:List Value,fs.length=us.length/\KatTups s.heap us fs/\∀v∈fs,∃i t,v=.int i t:=by
  intro us
  induction us with
  | nil=>intro ls _ _ _;exact⟨[],rfl,KatTups.nil,fun v hv=>by cases hv⟩
  | cons u us ih =>
   intro ls hl hall hn
   cases ls with
   | nil=>simp at hl
   | cons k ls =>
    obtain⟨a,rfl,o,items,n,ho,hc,hd,hi⟩:=hall 0 u k rfl rfl;obtain⟨fs,f1,f2,f3⟩:=ih ls (by simpa using hl) (fun i v k' hv hk'=>hall (i+1) v k' (by simpa using hv) (by simpa using hk')) (fun k' hk'=>hn k' (qak _ hk'))
    cases k with
    | nil=>exact absurd rfl (hn [] qaH)
    | cons k0 kr =>
     have hi':=hi;generalize hit:items.toList=l at hi'
     cases hi' with
     | @cons _ v0 _ vr h0 hr =>
      obtain⟨t0,rfl⟩:=Value.isInt_shape (k:=k0) (v:=v0) h0;have hg:items[0]?=some (.int k0 t0):=by rw[<-qaF,hit];rfl
      refine⟨.int k0 t0::fs,by simp[f1],KatTups.cons ho hc hd hg f2,fun v hv=>?_⟩;rcases qan.mp hv with rfl|hv
      ·exact⟨_,_,rfl⟩
      ·exact f3 v hv
 obtain⟨fs,f1,f2,f3⟩:=key vs ks hlen (fun i v k hv hk'=>hk.2 i v k (by simpa using hv) hk') hne;refine kat_kind (T:=.type "int") f2 (by lia) (fun v hv=>?_) (by decide) ?_
 ·obtain⟨i,t,rfl⟩:=f3 v hv;exact .now
 ·exact h
theorem tf(ho:s.heap.get? a=some (seqObj "list" vs.toArray n))(hk:Lie prog w s.heap vs.toArray ks)
  (hne:∀k∈ks,k≠[]) (h66:vs.length<=66)
  (h:∀(out:List Value) (ks':List (List Int)),Lie prog w s.heap out.toArray ks'->out.Perm vs->ks'.Perm ks->Ris ks'->P (.done (.ret .none)) { s with heap:=sortedHeap s.heap a vs out.toArray}) :
  wpAny (model prog w) A (Builtin.«list.sort» ⟨[.ref a],[]⟩) P E s:=by
 rw[list_sort_plain];have ha:a<s.heap.objs.size:=qao ho;have hfits:vs.length<=sizeLine:=by rw[sizeLine_eq];lia
 refine qah (listItems_at ho rfl ?_);refine qah (listUpdate_at ho rfl ?_ (by rw[qal];exact hfits) (qaG _));obtain⟨e1,ho1⟩:∃e1,(s.heap.update a (Obj.mapSeq fun _=>(#[]:Array Value))).get? a=some (seqObj "list" #[] e1):=⟨_,get?_update_seq ho fun _=>#[]⟩;refine qah (seqEpoch_at ho1 rfl ?_);refine qah (wpAny_newTuple ?_ (by show vs.length<=_;exact hfits));refine qah (wpAny_newList ?_ (qaG _));refine wpAny_holding ?_;have ho6:(((s.heap.update a (Obj.mapSeq fun _=>(#[]:Array Value))).push (seqObj "tuple" vs.toArray 0)).push (seqObj "list" #[] 0)).get? a=some (seqObj "list" #[] e1) :=
  qae _ (qae _ ho1)
 have tk6:∀k b,TK prog w s.heap k b->TK prog w (((s.heap.update a (Obj.mapSeq fun _=>(#[]:Array Value))).push (seqObj "tuple" vs.toArray 0)).push (seqObj "list" #[] 0)) k b:=by
  rintro k b ⟨o,items,m,hb,hc,r⟩;have hne':b≠a:=by
   rintro rfl;rw[ho] at hb;cases hb;have hc':Value.type "list"=Value.type "tuple":=hc;exact absurd hc' (by decide)
  exact⟨o,items,m,qae _ (qae _ ((qbs _ _ _ _ hne').trans hb)),hc,r⟩
 show wpAny (model prog w) A _ P E { s with heap:=((s.heap.update a (Obj.mapSeq fun _=>(#[]:Array Value))).push (seqObj "tuple" vs.toArray 0)).push (seqObj "list" #[] 0)};have hk6:Lie prog w (((s.heap.update a (Obj.mapSeq fun _=>(#[]:Array Value))).push (seqObj "tuple" vs.toArray 0)).push (seqObj "list" #[] 0)) vs.toArray ks :=
  ⟨hk.1,fun i v k hv hk'=>let ⟨b,e,t⟩:=hk.2 i v k hv hk';⟨b,e,tk6 k b t⟩⟩
 have hsz:vs.toArray.size=vs.length:=by simp
 dsimp only;by_cases h2:vs.toArray.size<2
 ·rw[qaf h2,qaf h2];refine qah (qaw ?_);rw[StateT.run_pure];refine qah (qaw ?_);dsimp only;refine qah (seqEpoch_at ho6 rfl ?_);have hz:((vs.toArray.zip vs.toArray).map (·.2))=vs.toArray:=by
   apply qaS.mp;simp only[Array.toList_map,Array.toList_zip,List.toList_toArray];exact List.map_snd_zip (qag _)
  refine qah (listUpdate_at ho6 rfl ?_ (qaG _) (by show ((vs.toArray.zip vs.toArray).map (·.2)).size<=_;rw[hz,hsz];lia));simp only[bne_self_eq_false,qam,if_false];refine qaw ?_
  have:=h vs ks hk (List.Perm.refl _) (List.Perm.refl _) (by
   have hl:ks.length<2:=by have:=hk.1;lia
   unfold Ris
   match ks,hl with
   | [],_=>simp
   | [x],_=>simp)
  have e:(arrOf (SortSt.mk' general' (vs.toArray.zip vs.toArray) #[] 7 none)).map (·.2)=vs.toArray:=hz;rw[e];exact this
 ·rw[qai h2,qai h2];refine qah (mV (s:={ s with heap:=_}) hk6 hne (by lia) ?_);have hps:(pairsOf vs).size=vs.length:=pairsOf_size vs
  refine qah (wpAny_mono (ug (C:=tcmp prog w A E { s with heap:=((s.heap.update a (Obj.mapSeq fun _=>(#[]:Array Value))).push (seqObj "tuple" vs.toArray 0)).push (seqObj "list" #[] 0)} true)
   (a₀:=pairsOf vs) (st:=SortSt.mk' (tuples' true) (vs.toArray.zip vs.toArray) #[] 7 none)
   (Q:=fun _ st'=>(arrOf st').Perm (pairsOf vs)/\failedOf st'=none/\Srt (tcmp prog w A E { s with heap:=((s.heap.update a (Obj.mapSeq fun _=>(#[]:Array Value))).push (seqObj "tuple" vs.toArray 0)).push (seqObj "list" #[] 0)} true) (arrOf st') 0 (pairsOf vs).size)
   ?_ ⟨Array.Perm.refl _,rfl,rfl⟩ rfl (by lia) (by lia) fun st' a1 a2 a3=>⟨a1,a2,a3⟩) ?_ fun _ _ e=>e)
  ·intro p hp;rw[pairsOf_toList] at hp;obtain⟨q1,q2⟩:=mem_zip_self hp;obtain⟨i,hi⟩:=qaE.mp q2
   obtain⟨k,hk'⟩:∃k,ks[i]?=some k:=⟨_,qaB (by
    have h3:=(qab.mp hi).1
    have:=hk.1;lia)⟩
   obtain⟨b,e,t⟩:=hk6.2 i p.1 k (by simpa using hi) hk';exact⟨b,k,e,t⟩
  ·rintro⟨⟨⟩,st'⟩ s' ⟨rfl,hp,hf,hs⟩;dsimp only;refine qah (seqEpoch_at ho6 rfl ?_);have hz:((arrOf st').map (·.2)).size=vs.length:=by rw[Array.size_map,hp.size_eq,hps]
   refine qah (listUpdate_at ho6 rfl ?_ (qaG _) (by show ((arrOf st').map (·.2)).size<=_;rw[hz];lia));rw[hf];simp only[bne_self_eq_false,qam,if_false];refine qaw ?_;have hl:(arrOf st').toList.Perm (vs.zip vs):=by rw[<-pairsOf_toList];exact qbx.mp hp
   have hmem:∀p,p∈(arrOf st').toList->p.1=p.2/\p.1∈vs:=fun p hp'=>mem_zip_self (hl.mem_iff.mp hp');have hv:∀v,v∈vs->∃k b,v=.ref b/\TK prog w s.heap k b/\k∈ks:=fun v hv=>by
    obtain⟨i,hi⟩:=qaE.mp hv
    obtain⟨k,hk'⟩:∃k,ks[i]?=some k:=⟨_,qaB (by
     have h3:=(qab.mp hi).1
     have:=hk.1;lia)⟩
    obtain⟨b,e,t⟩:=hk.2 i v k (by simpa using hi) hk';exact⟨k,b,e,t,qaE.mpr ⟨i,hk'⟩⟩
   have hmap:vs.map (tkey prog w s.heap)=ks:=by
    apply qbO;intro i;rw[qax]
    cases hi:vs[i]? with
    | none =>
     have:=qbB.mp hi
     rw[qbf (by have:=hk.1;lia)];rfl
    | some v =>
     obtain⟨k,hk'⟩:∃k,ks[i]?=some k:=⟨_,qaB (by
      have h3:=(qab.mp hi).1
      have:=hk.1;lia)⟩
     obtain⟨b,e,t⟩:=hk.2 i v k (by simpa using hi) hk';subst e;rw[hk'];show some (tkey prog w s.heap (.ref b))=some k;rw[dS t]
   have h6eq:∀v,v∈vs->tkey prog w (((s.heap.update a (Obj.mapSeq fun _=>(#[]:Array Value))).push (seqObj "tuple" vs.toArray 0)).push (seqObj "list" #[] 0)) v=tkey prog w s.heap v:=fun v hv'=>by
    obtain⟨k,b,rfl,t,_⟩:=hv v hv';rw[dS t,dS (tk6 k b t)]
   have hout:=h ((arrOf st').toList.map (·.2)) ((arrOf st').toList.map fun p=>tkey prog w s.heap p.1) ?_ ?_ ?_ ?_
   ·have e:((arrOf st').toList.map (·.2)).toArray=(arrOf st').map (·.2):=by apply qaS.mp;simp
    rw[e] at hout;exact hout
   ·refine⟨by simp,fun i v k hv' hk'=>?_⟩;rw[qcs,qax] at hv';rw[qax] at hk'
    cases hi:(arrOf st').toList[i]? with
    | none=>rw[hi] at hv';cases hv'
    | some p =>
     rw[hi] at hv' hk';cases hv';cases hk';obtain⟨q1,q2⟩:=hmem p (qaV hi);obtain⟨k,b,e,t,_⟩:=hv p.1 q2;refine⟨b,by show p.2=_;rw[<-q1];exact e,?_⟩;show TK prog w s.heap (tkey prog w s.heap p.1) b;rw[e,dS t];exact t
   ·have q:=hl.map (·.2);rw[List.map_snd_zip (qag _)] at q;exact q
   ·have q:=hl.map fun p=>tkey prog w s.heap p.1;have e2:(vs.zip vs).map (fun p=>tkey prog w s.heap p.1)=ks:=by
     rw[<-hmap]
     have:(vs.zip vs).map (fun p=>tkey prog w s.heap p.1)=((vs.zip vs).map Prod.fst).map (tkey prog w s.heap):=by rw[qbl];rfl
     rw[this,List.map_fst_zip (qag _)]
    rw[e2] at q;exact q
   ·unfold Ris;rw[List.pairwise_map,qbA];intro i j hi hj hij;have hi':i<(arrOf st').size:=by simpa using hi
    have hj':j<(arrOf st').size:=by simpa using hj
    have q:=hs i j (qaG _) (qbF hij) (by rw[<-hp.size_eq];exact hj');rw[aJ (getElem?_pos _ i hi'),aJ (getElem?_pos _ j hj')] at q;have m1:=(hmem (arrOf st')[i] (by simp)).2;have m2:=(hmem (arrOf st')[j] (by simp)).2;have q':bx (tkey prog w (((s.heap.update a (Obj.mapSeq fun _=>(#[]:Array Value))).push (seqObj "tuple" vs.toArray 0)).push (seqObj "list" #[] 0)) (arrOf st')[j].1)
     (tkey prog w (((s.heap.update a (Obj.mapSeq fun _=>(#[]:Array Value))).push (seqObj "tuple" vs.toArray 0)).push (seqObj "list" #[] 0)) (arrOf st')[i].1)=false:=q
    rw[h6eq _ m1,h6eq _ m2] at q';simpa using q'
end
section
variable {prog:Program} {w:World} {A:Around} {E:Value→Shared→Prop} {s:Shared}
theorem eR(ho:h.get? a=some (seqObj "list" vs.toArray n))(out:Array Value):∃c,(sortedHeap h a vs out).get? a=some (seqObj "list" out c):=by
 unfold sortedHeap;obtain⟨e1,ho1⟩:∃e1,(h.update a (Obj.mapSeq fun _=>(#[]:Array Value))).get? a=some (seqObj "list" #[] e1):=⟨_,get?_update_seq ho fun _=>#[]⟩;exact⟨_,get?_update_seq (qae _ (qae _ ho1)) fun _=>out⟩
theorem d9(hb:b≠a)(ho:h.get? b=some o)(out:Array Value):(sortedHeap h a vs out).get? b=some o:=by
 unfold sortedHeap;rw[qbs _ _ _ _ hb];exact qae _ (qae _ ((qbs _ _ _ _ hb).trans ho))
structure Told (prog:Program) (w:World) (R:Value->Prop) (H0 h h':Heap) (l:Addr) (ks:List (List Int)) (out:List Value) (ks':List (List Int)):Prop where
 ext:Ext h h'
 fresh:h.get? l=none
 size:h.objs.size<=l
 at':∃c,h'.get? l=some (seqObj "list" out.toArray c)
 lie:Lie prog w H0 out.toArray ks'
 perm:ks'.Perm ks
 ris:Ris ks'
 mem:∀v∈out,R v
theorem sC(hx:Ext H0 s.heap)(hne:∀k∈ks,k≠[])(h66:ks.length<=66)
  (hc:wpAny (model prog w) A.in1 (collect v) (fun vs s1=>∃h' tk ks1,s1={ s with heap:=h',toks:=tk}/\Ext s.heap h'/\s.heap.objs.size<h'.objs.size/\s.toks<=tk/\Lie prog w H0 (List.toArray vs) ks1/\ks1.Perm ks/\∀v∈vs,R v) E s)
  (h:∀h' tk l out ks',Told prog w R H0 s.heap h' l ks out ks'->s.toks<=tk->Q (.ref l) { s with heap:=h',toks:=tk}) :
  wpAny (model prog w) A (call (.builtin "sorted") [v]) Q E s:=by
 refine Calls.call_function_entry kind_sorted plain_sorted entry_sorted (args_sorted1 _) ?_;unfold Builtin.«sorted»;refine qah (m:=checkCount "sorted" 1 1 _) (qaw ?_);refine qah (wpAny_mono hc (fun vs s1 hq=>?_) fun _ _ e=>e);obtain⟨h1,tk,ks1,rfl,x1,hsz1,htk,lie1,p1,hR⟩:=hq;have hlen:vs.length=ks1.length:=by have:=lie1.1;simpa using this
 have hl66:vs.length<=66:=by rw[hlen,p1.length_eq];exact h66
 refine qah (wpAny_newList ?_ (by rw[sizeLine_eq];omega));have hoL:(h1.push (seqObj "list" vs.toArray 0)).get? h1.objs.size=some (seqObj "list" vs.toArray 0):=qaz _ rfl;have up:∀b o,h1.get? b=some o->(h1.push (seqObj "list" vs.toArray 0)).get? b=some o:=fun b o e=>qae _ e;have lieL:Lie prog w (h1.push (seqObj "list" vs.toArray 0)) vs.toArray ks1:=⟨lie1.1,fun i u k hu hk=>let ⟨b,e,t⟩:=lie1.2 i u k hu hk;⟨b,e,sE (fun c o ho=>up c o (x1 c o (hx c o ho))) t⟩⟩
 refine qah (wpAny_holding (wpAny_call_entry slot_list_sort ⟨_,hoL,rfl⟩ entry_list_sort
  (tf (s:={ s with heap:=h1.push (seqObj "list" vs.toArray 0),toks:=tk}) hoL lieL (fun k hk=>hne k (p1.mem_iff.mp hk)) hl66 fun out ks' l2 pv p2 r2=>⟨_,rfl,?_⟩) (args_list_sort _)))
 refine qaw ⟨_,rfl,?_⟩;have hfresh:s.heap.get? h1.objs.size=none:=by
  cases e:s.heap.get? h1.objs.size with
  | none=>rfl
  | some o=>exact absurd (qao (x1 _ _ e)) (qaO _)
 refine h _ tk h1.objs.size out ks' ⟨fun b o e=>?_,hfresh,qbF hsz1,eR hoL _,⟨l2.1,fun i u k hu hk=>?_⟩,p2.trans p1,r2,fun v hv=>hR v (pv.mem_iff.mp hv)⟩ htk
 ·have hb:b≠h1.objs.size:=qaJ (qao (x1 b o e));exact d9 hb (up b o (x1 b o e)) _
 ·
  obtain⟨b,e,t⟩:=l2.2 i u k hu hk;have hu':out[i]?=some u:=by simpa using hu
  have hmem:u∈vs:=pv.mem_iff.mp (qaV hu');obtain⟨q,hq⟩:=qaE.mp hmem;obtain⟨k1,hk1⟩:∃k1,ks1[q]?=some k1:=⟨_,qaB (by have:=(qab.mp hq).1;omega)⟩;obtain⟨b1,e1,t1⟩:=lie1.2 q u k1 (by simpa using hq) hk1;rw[e] at e1;cases e1;have t2:=sE (fun c o ho=>up c o (x1 c o (hx c o ho))) t1
  have:k=k1:=IsTupleKey.inj t t2
  subst this;exact⟨b,e,t1⟩
theorem ot{l:Addr}{vs:List Value}{ks:List (List Int)}{Q:Value->Shared->Prop}(hl:s.heap.IsList l vs.toArray)(hk:Lie prog w s.heap vs.toArray ks)(hne:∀k∈ks,k≠[])(h66:ks.length<=66)
  (h:∀h' tk l out ks',Told prog w (·∈vs) s.heap s.heap h' l ks out ks'->s.toks<=tk->Q (.ref l) { s with heap:=h',toks:=tk}) :
  wpAny (model prog w) A (call (.builtin "sorted") [.ref l]) Q E s:=by
 have hlen:vs.length=ks.length:=by have:=hk.1;simpa using this
 refine sC (R:=(·∈vs)) (H0:=s.heap) (fun b o e=>e) hne h66 (collect_list hl ⟨_,s.toks,ks,rfl,fun b o e=>?_,by rw[Heap.size_update,size_push'];exact qbT _,qag _,hk,List.Perm.refl _,fun v hv=>hv⟩ (by rw[sizeLine_eq];omega)) h;have hlt:b<s.heap.objs.size:=qao e;rw[qbs _ _ _ _ (qaJ hlt)];exact qae _ e
end
end SortT
namespace MM
open PySem PySem.Spec PyProof.Rows L2 SetT SortT
def eX:List PV->Option (List Int)
 | []=>some []
 | .int i::r=>(eX r).map (i::·)
 | _=>none
def kOf:PV->Option (List Int)
 | .tup xs=>eX xs
 | _=>none
def gN:List PV->Option (List (List Int))
 | []=>some []
 | x::r=>(match kOf x,gN r with
  | some k,some ks=>some (k::ks)
  | _,_=>none)
def kP(k:List Int):PV:=.tup (k.map .int)
def ff(l:List (List Int)):List (List Int):=l.mergeSort fun x y=>!bx y x
theorem rj(l:List (List Int)):(ff l).Perm l:=List.mergeSort_perm _ _
theorem uA(l:List (List Int)):Ris (ff l):=by
 have:=qcj (le:=fun x y=>!bx y x) (l:=l) (fun a b c h1 h2=>by
   simp only[qbp] at h1 h2 ⊢
   exact KeyOrd.kle_trans (O:=lexO) h1 h2) (fun a b=>by
   cases h:bx b a with
   | false=>simp
   | true =>
    have:bx a b=false:=KeyOrd.klt_asymm (O:=lexO) h
    simp[this])
 unfold Ris ff;exact this.imp fun {a b} h=>by simpa using h
theorem qq(h1:Ris l)(h2:Ris m)(p:l.Perm m):l=m :=
 List.Perm.eq_of_pairwise (fun a b _ _ x y=>gp a b y x) h1 h2 p
theorem nX:∀{xs:List PV} {k:List Int},eX xs=some k->xs=k.map .int
 | [],k,h=>by cases h;rfl
 | x::r,k,h=>by
  cases x with
  | int i =>
   unfold eX at h
   cases hr:eX r with
   | none=>rw[hr] at h;cases h
   | some kr =>
    rw[hr] at h;cases h;rw[nX hr];rfl
  | _=>cases h
theorem kOf_eq(h:kOf x=some k):x=kP k:=by
 cases x with
 | tup xs=>unfold kP;rw[nX (show eX xs=some k from h)]
 | _=>cases h
theorem pA:∀{xs:List PV} {ks:List (List Int)},gN xs=some ks->xs=ks.map kP
 | [],ks,h=>by cases h;rfl
 | x::r,ks,h=>by
  unfold gN at h
  cases hx:kOf x with
  | none=>rw[hx] at h;cases h
  | some k =>
   cases hr:gN r with
   | none=>rw[hx,hr] at h;cases h
   | some kr =>
    rw[hx,hr] at h;cases h;rw[kOf_eq hx,pA hr];rfl
def TKs(K:qaa)(H:Hp)(ys:List V)(ks:List (List Int)):Prop :=
 ys.length=ks.length/\∀(i:Nat) (y:V) (k:List Int),ys[i]?=some y->ks[i]?=some k->∃a,y=.ref a/\SqT K H a (k.map V.int)
theorem vints{K:qaa}{ρ:List Addr}{H:Hp}:∀{k:List Int} {ys:List V},RPs K ρ H (k.map PV.int) ys->ys=k.map V.int
 | [],ys,h=>by cases h;rfl
 | i::k,ys,h=>by
  cases h with
  | cons r t =>
   cases r;rw[vints t];rfl
theorem oW{K:qaa}{ρ:List Addr}{H:Hp}:∀{ks:List (List Int)} {ys:List V},RPs K ρ H (ks.map kP) ys->TKs K H ys ks
 | [],ys,h=>by cases h;exact⟨rfl,fun i y k e=>by simp at e⟩
 | k::ks,ys,h=>by
  cases h with
  | cons r t =>
   obtain⟨l,g⟩:=oW t;refine⟨by simp[l],fun i y k' e1 e2=>?_⟩
   cases i with
   | zero =>
    simp at e1 e2;subst e1;subst e2
    cases r with
    | tup s1 r1 =>
     rw[vints r1] at s1;exact⟨_,rfl,s1⟩
   | succ i=>exact g i y k' (by simpa using e1) (by simpa using e2)
theorem o6{K:qaa}{ρ:List Addr}{H:Hp}:∀{ks:List (List Int)} {ys:List V},TKs K H ys ks->RPs K ρ H (ks.map kP) ys
 | [],ys,h=>by
  have:ys=[]:=qbL.mp (by have:=h.1;simpa using this)
  subst this;exact .nil
 | k::ks,ys,h=>by
  cases ys with
  | nil=>have:=h.1;simp at this
  | cons y ys =>
   obtain⟨a,rfl,s1⟩:=h.2 0 y k rfl rfl;refine .cons (.tup s1 (RPs.ints k)) (o6 ⟨by have:=h.1;simpa using this,fun i y' k' e1 e2=>h.2 (i+1) y' k' (by simpa using e1) (by simpa using e2)⟩)
theorem jJ:∀{k:List Int} {its:List Value},ar (k.map V.int) its->ItemsAre (intKind prog w) k its
 | [],_,h=>by cases h;exact .nil
 | i::k,_,h=>by
  cases h with
  | cons r t =>
   obtain⟨tk,rfl⟩:=r;exact .cons (intKind_is _ _ _ _) (jJ t)
section
variable {X:Cx} {BN:List (Addr × Obj)} {σ:L2.St} {H:Hp} {s:Shared}
theorem rO(I:Inv X BN σ H s)(h:SqT X.K H a (k.map V.int)):TK X.prog X.w s.heap k a:=by
 obtain⟨its,rv,⟨o,ho,hc,n,hd⟩,_⟩:=I.tuple h;exact⟨o,its.toArray,n,ho,hc,hd,by simpa using jJ rv⟩
theorem inv_lie(I:Inv X BN σ H s)(h:TKs X.K H ys ks)(rv:ar ys its):Lie X.prog X.w s.heap its.toArray ks:=by
 refine⟨by simp[<-rv.length,h.1],fun i v k hv hk=>?_⟩;have hi:i<ys.length:=by rw[h.1];exact (qab.mp hk).1
 obtain⟨a,e,s1⟩:=h.2 i ys[i] k (by simp[hi]) hk;obtain⟨u,eu,ru⟩:=rv.get (show ys[i]?=some ys[i] by simp[hi])
 have:v=u:=by
  have h1:its[i]?=some v:=by simpa using hv
  rw[h1] at eu;exact Option.some.inj eu
 subst this;rw[e] at ru;exact⟨a,ru,rO I s1⟩
end
section
variable {X:Cx} {N W G:List Str} {k:Nat}
theorem told_ep{BN:List (Addr × Obj)}{s:Shared}{σ:L2.St}{H:Hp}{Q:VK}{R:Value->Prop}{h':Heap}{tk:Nat}{l:Addr}{ks ks':List (List Int)}{out:List Value}(I:Inv X BN σ H s)(T:Told X.prog X.w R s.heap s.heap h' l ks out ks')
  (hR:∀v,R v->∃(a:Addr) (k:List Int),v=.ref a/\SqT X.K H a (k.map V.int)) (hz:ks.length<=66)
  (q:∀l ys,H l=none->TKs X.K H ys (ff ks)->Q (.ref l) (upd H l (.lst ys))):EP X BN σ Q (.ref l) { s with heap:=h',toks:=tk}:=by
 have hlt:=T.size;have hks:ks'=ff ks:=qq T.ris (uA ks) (T.perm.trans (rj ks).symm);obtain⟨c,hc⟩:=T.at';have hlen:out.length=ks'.length:=by have:=T.lie.1;simpa using this
 have hout:∀v∈out,∃a,v=.ref a:=fun v hv=>let ⟨a,_,e,_⟩:=hR v (T.mem v hv);⟨a,e⟩;obtain⟨ys,rv,hy⟩:∃ys:List V,ar ys out/\∀y∈ys,∃a,y=.ref a/\Value.ref a∈out:=by
  clear hlen T hR hks hc
  induction out with
  | nil=>exact⟨[],.nil,fun y hy=>by cases hy⟩
  | cons v out ih =>
   obtain⟨a,rfl⟩:=hout v qaH;obtain⟨ys,r,g⟩:=ih (fun u hu=>hout u (qak _ hu));refine⟨.ref a::ys,.cons rfl r,fun y hy=>?_⟩;rcases qan.mp hy with rfl|hy
   ·exact⟨a,rfl,qaH⟩
   ·obtain⟨b,e,m⟩:=g y hy;exact⟨b,e,qak _ m⟩
 have hks2:TKs X.K H ys ks':=by
  refine⟨by rw[rv.length,hlen],fun i y k hy' hk=>?_⟩;obtain⟨u,eu,ru⟩:=rv.get hy';obtain⟨a,e,m⟩:=hy y (qaV hy');subst e;cases ru;obtain⟨b,k2,e2,s1⟩:=hR _ (T.mem _ m);cases e2;obtain⟨b2,e3,t⟩:=T.lie.2 i (.ref a) k (by simpa using eu) hk;cases e3
  have:k=k2:=IsTupleKey.inj t (rO I s1)
  subst this;exact⟨a,rfl,s1⟩
 have hfr:=I.hok.fresh hlt;refine⟨.ref l,_,I.laid (o:=.lst ys) T.ext hlt (show ObjOk X.prog X.w _ h' l (.lst ys) from⟨?_,out,c,rv,hc⟩),rfl,q l ys hfr (by rw[<-hks];exact hks2)⟩;rw[rv.length,hlen,T.perm.length_eq,sizeLine_eq];omega
theorem nQ:bK X (.builtin "sorted") (fun xs H Q=>∃l ys ks,xs=[.ref l]/\SqL X.K H l ys/\TKs X.K H ys ks/\(∀k∈ks,k≠[])/\ks.length<=66 /\
  ∀l' ys',H l'=none->TKs X.K H ys' (ff ks)->Q (.ref l') (upd H l' (.lst ys'))):=by
 intro BN s σ H xs us Q I r ⟨l,ys,ks,e,hq,ht,hne,hz,q⟩;subst e;obtain⟨u,rfl,rx⟩:=dC r;cases rx;obtain⟨its,rv,pl,hz2⟩:=I.list hq;refine ot pl.isList (inv_lie I ht rv) hne hz fun h' tk l' out ks' td htk=>?_;refine told_ep I td (fun v hv=>?_) hz q;obtain⟨i,hi⟩:=qaE.mp hv;have hlt:i<its.length:=(qab.mp hi).1;have hlt2:i<ys.length:=by rw[rv.length];exact hlt
 have hlt3:i<ks.length:=by rw[<-ht.1];exact hlt2
 obtain⟨a,e,s1⟩:=ht.2 i ys[i] ks[i] (by simp[hlt2]) (by simp[hlt3]);obtain⟨u,eu,ru⟩:=rv.get (show ys[i]?=some ys[i] by simp[hlt2]);rw[hi] at eu;cases eu;rw[e] at ru;exact⟨a,_,ru,s1⟩
def eT(h:MH):PV->Option (List PV)
 | .frl xs=>some xs
 | .loc n=>(match h[n]? with
  | some (.lst xs)=>some xs
  | _=>none)
 | _=>none
theorem lst_rel{ρ:List Addr}{H:Hp}{h:MH}{x:PV}{y:V}{xs:List PV}{K:qaa}{mg:MGl}(rh:RH K mg ρ H h)(r:RP K ρ H x y)(e:eT h x=some xs):∃a zs,y=.ref a/\SqL K H a zs/\RPs K ρ H xs zs:=by
 cases r with
 | frl s r=>cases e;exact⟨_,_,rfl,s.sq,r⟩
 | @loc n a en =>
  obtain⟨o,eo,ro⟩:=rh.obj en;unfold eT at e;dsimp only at e;rw[eo] at e
  cases o with
  | lst zs =>
   cases e;obtain⟨ys,ey,ry⟩:=ro;exact⟨a,ys,rfl,SqL.of ey,ry⟩
  | _=>cases e
 | _=>cases e
end
end MM
namespace SeqT
open PySem
abbrev itN(tp:Bool):String:=if tp then "tuple_iterator" else "list_iterator"
abbrev sqN(tp:Bool):String:=if tp then "tuple" else "list"
def SqI(tp:Bool)(h:Heap)(it a:Addr)(i:Nat):Prop:=∃o,h.get? it=some o/\o.cls=.type (itN tp)/\o.data=.fields #[.ref a,.int i 0]
def SqO(tp:Bool)(h:Heap)(a:Addr)(xs:Array Value):Prop:=∃o,h.get? a=some o/\o.cls=.type (sqN tp)/\∃n,o.data=.seq xs n
theorem SqI.at'(x:SqI tp h it a i)(k:∀o,h.get? it=some o->h'.get? it=some o):SqI tp h' it a i:=let ⟨o,e,r⟩:=x;⟨o,k o e,r⟩
theorem SqO.at'(x:SqO tp h a xs)(k:∀o,h.get? a=some o->h'.get? a=some o):SqO tp h' a xs:=let ⟨o,e,r⟩:=x;⟨o,k o e,r⟩
theorem SqI.lt(x:SqI tp h it a i):it<h.objs.size:=let ⟨_,e,_⟩:=x;qao e
section
variable {prog:Program} {w:World} {A:Around} {E:Value→Shared→Prop} {s:Shared}
theorem rm(hi:SqI tp s.heap it a i)(ho:SqO tp s.heap a xs)(hx:xs[i]?=some x)
  (hQ:∀h',SqI tp h' it a (i+1)->Heap.SameBut it s.heap h'->Q x { s with heap:=h'}):wpAny (model prog w) A (Builtin.SmallTypes.nextOf (.ref it)) Q E s:=by
 cases tp with
 | false=>exact wpAny_nextOf_list_item (show s.heap.IsListIter it a i from hi) (show s.heap.IsList a xs from ho) hx hQ
 | true =>
  obtain⟨o,e,hc,hd⟩:=id hi;obtain⟨ol,hol,_,nl,hdl⟩:=ho;have hT:s.TypeIs (.ref it) "tuple_iterator":=⟨o,e,hc⟩;unfold Builtin.SmallTypes.nextOf;refine qah (wpAny_callSpecial?_slot (name:=Str.ofString "__next__") hT F.slot_tuple_iterator_next (wpAny_call_entry F.slot_tuple_iterator_next hT F.entry_tuple_iterator_next ?_ (F.args_tuple_iterator_next_1 _)));show wpAny _ _ (field (.ref it) 0 >>= _) _ _ s;refine qah (wpAny_field e hd (x:=.ref a) rfl ?_);show wpAny _ _ (if (Value.ref a == Value.none)=true then _ else _) _ _ s;rw[qai (show ¬((Value.ref a == Value.none)=true) from qaI)];show wpAny _ _ (field (.ref it) 1 >>= _) _ _ s;refine qah (wpAny_field e hd (x:=.int i 0) rfl ?_);show wpAny _ _ (seqItems? (.ref a) >>= _) _ _ s;refine qah (wpAny_seqItems hol hdl ?_);simp only[qaT,hx];refine qah (wpAny_setField e hd (by simp) (qaw ⟨x,rfl,qaw (hQ _ ?_ (Heap.SameBut.update ..))⟩));exact⟨_,qcq _ e (Obj.isFreed_of_fields (Obj.data_mapFields hd _)),(Obj.cls_mapFields ..).trans hc,by rw[Obj.data_mapFields hd];simp[rawInt]⟩
theorem mF(hh:A.handled=none)(hi:SqI tp s.heap it a i)(ho:SqO tp s.heap a xs)(hx:xs[i]?=none)
  (hE:∀h' e,Heap.ExtBut it s.heap h'->(∃o,h'.get? e=some o/\o.cls=.type "StopIteration")->E (.ref e) { s with heap:=h'}):wpAny (model prog w) A (Builtin.SmallTypes.nextOf (.ref it)) Q E s:=by
 cases tp with
 | false=>exact wpAny_nextOf_list_end hh (show s.heap.IsListIter it a i from hi) (show s.heap.IsList a xs from ho) hx hE
 | true =>
  obtain⟨o,e,hc,hd⟩:=id hi;obtain⟨ol,hol,_,nl,hdl⟩:=ho;have hT:s.TypeIs (.ref it) "tuple_iterator":=⟨o,e,hc⟩;unfold Builtin.SmallTypes.nextOf;refine qah (wpAny_callSpecial?_slot (name:=Str.ofString "__next__") hT F.slot_tuple_iterator_next (wpAny_call_entry F.slot_tuple_iterator_next hT F.entry_tuple_iterator_next ?_ (F.args_tuple_iterator_next_1 _)));show wpAny _ _ (field (.ref it) 0 >>= _) _ _ s;refine qah (wpAny_field e hd (x:=.ref a) rfl ?_);show wpAny _ _ (if (Value.ref a == Value.none)=true then _ else _) _ _ s;rw[qai (show ¬((Value.ref a == Value.none)=true) from qaI)];show wpAny _ _ (field (.ref it) 1 >>= _) _ _ s;refine qah (wpAny_field e hd (x:=.int i 0) rfl ?_);show wpAny _ _ (seqItems? (.ref a) >>= _) _ _ s;refine qah (wpAny_seqItems hol hdl ?_);simp only[qaT,hx];refine qah (wpAny_rule (qah (wpAny_setField e hd (by simp) ?_)));show wpAny _ _ (newExc (.type "StopIteration") [] >>= _) _ _ _;refine qah ?_;simp only[newExc,newTuple];refine qah (wpAny_newObj_type ?_ (by size_fits));refine qah (m:=firstArgMember _ _) (wpAny_of_eq (a:=Value.none) (by first | rfl | (simp only[firstArgMember];rfl)) ?_);refine wpAny_newObj_type ?_ (by size_fits);simp only[raiseNew];refine qah (wpAny_handled ?_);rw[show A.in1.handled=none from hh];refine qah (qaw (wpAny_throw ?_));exact hE _ _ (((Heap.SameBut.update ..).extBut.push _).push _) ⟨_,qaz _ rfl,rfl⟩
theorem kf(ho:SqO tp s.heap a xs)
  (hQ:Q (.ref s.heap.objs.size) { s with heap:=s.heap.push { cls:=.type (itN tp),data:=.fields #[.ref a,.int 0 0]}}):wpAny (model prog w) A (pyIter (.ref a)) Q E s:=by
 cases tp with
 | false=>exact wpAny_pyIter_list (show s.heap.IsList a xs from ho) hQ
 | true=>exact wpAny_pyIter_tuple (show s.heap.IsTuple a xs from ho) hQ
end
theorem draws(hh:A.handled=none)(tp:Bool)(it a:Addr)(hne:a≠it)(xs:Array Value) :
  Draws prog w A it [it,a] xs.size (fun i v=>xs[i]?=some v) (fun i h=>SqI tp h it a i/\SqO tp h a xs) where
 live:=fun _ _ st=>let ⟨o,ho,_⟩:=st.1;⟨o,ho⟩
 frame:=fun _ _ _ st hk=>⟨st.1.at' fun o e=>hk it (by simp) o e,st.2.at' fun o e=>hk a (by simp) o e⟩
 item:=fun i s Q E hi st hQ=>by
  refine rm st.1 st.2 (x:=xs[i]) (by simp[hi]) fun h' hit' hs'=>?_;exact hQ _ h' s.toks (by simp[hi]) ⟨hit',st.2.at' fun o e=>(hs'.2 a hne).trans e⟩ hs'
 done:=fun s Q E st hE=>mF hh st.1 st.2 (by simp) hE
theorem tT(tp:Bool)(a:Addr)(xs:Array Value)(n:Nat)(dct:Option Addr)(sl:Array (Option Value)) :
  Meets (Builtin.«enumerate.__new__» ⟨[.type "enumerate",.ref a],[]⟩) (fun _ R s=>s.heap.get? a=some { cls:=.type (sqN tp),dict:=dct,data:=.seq xs n,slots:=sl} /\
   R (.ok (.ret (.ref (s.heap.push { cls:=.type (itN tp),data:=.fields #[.ref a,.int 0 0]}).objs.size)))
    { s with heap:=(s.heap.push { cls:=.type (itN tp),data:=.fields #[.ref a,.int 0 0]}).push { cls:=.type "enumerate",data:=.fields #[.none,.bool false,.ref s.heap.objs.size,rawInt 0,.none,.none]}}) :=
 .of_wp fun prog w A R s h=>by
  obtain⟨hp,g,d,tk,os⟩:=s;obtain⟨hl,h⟩:=h;have hsub:=sub_enumerate;have hL:SqO tp (Shared.heap ⟨hp,g,d,tk,os⟩) a xs:=⟨_,hl,rfl,n,rfl⟩
  wp_walk using AutoSeq1.wpAny_loadPart' hl
  refine wpAny_stack_any fun st=>qaw ?_;split
  ·rename_i c _ _ _ _ _
   cases (c == Value.type "enumerate")
   ·wp_walk using AutoSeq1.wpAny_loadPart' hl,kf hL
    exact⟨_,rfl,h⟩
   ·wp_walk using AutoSeq1.wpAny_loadPart' hl,kf hL
    exact⟨_,rfl,h⟩
  ·wp_walk using AutoSeq1.wpAny_loadPart' hl,kf hL
   exact⟨_,rfl,h⟩
section
variable {prog:Program} {w:World} {A:Around} {E:Value→Shared→Prop} {s:Shared}
theorem sk(hL:SqO tp s.heap a xs)
  (h:∀h',IsEnum h' (s.heap.objs.size+1) s.heap.objs.size 0 .none->SqI tp h' s.heap.objs.size a 0->h'.objs.size=s.heap.objs.size+2 ->
   (∀b o,s.heap.get? b=some o->h'.get? b=some o)->Q (.ref (s.heap.objs.size+1)) { s with heap:=h'}) :
  wpAny (model prog w) A (call (.type "enumerate") [.ref a]) Q E s:=by
 obtain⟨⟨c,dct,dt,sl⟩,hl,hc,n,hd⟩:=hL;replace hc:c=.type (sqN tp):=hc;replace hd:dt=.seq xs n:=hd;subst hc hd;refine callType_new F.called_enumerate (by decide) (F.typeCall_enumerate_1 _) (F.newCall_enumerate_1 _) (fun obj=>F.args_object_init_2 obj _) F.entry_enumerate_new (tT tp a xs n dct sl) ⟨hl,?_⟩;have hz:(s.heap.push { cls:=.type (itN tp),data:=.fields #[.ref a,.int 0 0]}).objs.size=s.heap.objs.size+1:=qbz ..;show _/\_;rw[hz]
 have he:IsEnum ((s.heap.push { cls:=.type (itN tp),data:=.fields #[.ref a,.int 0 0]}).push
   { cls:=.type "enumerate",data:=.fields #[.none,.bool false,.ref s.heap.objs.size,rawInt 0,.none,.none]}) (s.heap.objs.size+1) s.heap.objs.size 0 .none:=by
  have:=qaz (s.heap.push { cls:=.type (itN tp),data:=.fields #[.ref a,.int 0 0]})
   (o:={ cls:=.type "enumerate",data:=.fields #[.none,.bool false,.ref s.heap.objs.size,rawInt 0,.none,.none]}) rfl
  rw[hz] at this;exact this
 exact⟨⟨_,he,rfl⟩,h _ he ⟨_,qae _ (qaz _ rfl),rfl,rfl⟩ (by rw[qbz,hz]) fun b o x=>qae _ (qae _ x)⟩
end
section
variable {prog:Program} {w:World} {A:Around} {E:Value→Shared→Prop} {s:Shared}
variable {z TI TO i1 i2 l1 l2:Addr} {t1 t2:Bool} {k1 k2:Nat} {xs ys:Array Value}
end
section
variable {prog:Program} {w:World} {A:Around} {E:Value→Shared→Prop} {s:Shared}
end
end SeqT
namespace MM
open PySem PySem.Spec PyProof.Rows L2 SeqT
def SqB(tp:Bool)(K:qaa)(H:Hp)(a:Addr)(ys:List V):Prop:=match tp with
 | true=>SqT K H a ys
 | false=>SqL K H a ys
section
variable {X:Cx} {BN:List (Addr × Obj)} {σ:L2.St} {H:Hp} {s:Shared}
theorem oi(I:Inv X BN σ H s)(h:SqB tp X.K H a ys):∃its:List Value,ar ys its/\SqO tp s.heap a its.toArray/\ys.length<=sizeLine:=by
 cases tp with
 | true =>
  obtain⟨its,rv,pl,hz⟩:=I.tuple h;exact⟨its,rv,pl,hz⟩
 | false =>
  obtain⟨its,rv,pl,hz⟩:=I.list h;exact⟨its,rv,pl.isList,hz⟩
theorem inv_sqi(I:Inv X BN σ H s)(h:SqB tp X.K H a xs)(h':SqB tp X.K H a ys):xs=ys:=by
 cases tp with
 | true=>exact I.tuple_inj h h'
 | false=>exact I.list_inj h h'
theorem ju(I:Inv X BN σ H s){h':Heap}{t':Nat}{ch:List Addr}(hf:∀b∈ch,fi X BN H b)(k:∀b o,b∉ch->s.heap.get? b=some o->h'.get? b=some o) :
  Inv X BN σ H { s with heap:=h',toks:=t'}:=by
 have nit:∀b u,H b=some u->b∉ch:=fun b u e z=>by rw[(hf b z).1] at e;cases e
 refine I.step (g':=s.gens) (d':=s.drawn) (ch:=ch) (fun b hb=>?_) (fun b o _ _ hc e _=>k b o hc e) (fun b o _ _ hc e _=>⟨o.slots,k b o hc e⟩) (fun _ _ _ _ n=>n)
  (fun b o hc e=>⟨o,k b o hc e⟩) (fun _ _ e=>e) (fun _ _ _ e=>e) (fun b ps e=>⟨#[],by rw[e];simp⟩) (fun m hm=>?_) (fun b u e=>?_) I.bare
 ·obtain⟨f0,f1,f2,f3,f4,f5⟩:=hf b hb;exact⟨f3,f1,f4,f5⟩
 ·obtain⟨o,es,ep,ho,r⟩:=hm;exact⟨o,es,ep,k _ o (fun z=>(hf _ z).2.1 rfl) ho,r⟩
 ·refine (I.hok b u e).stay (fun c v hc q=>k c v ?_ q) (fun _ q=>q) fun _ _ q=>q;rcases hc with z|z
  ·rw[z];exact nit b u e
  ·exact nit c _ z
theorem inv_tup(I:Inv X BN σ H s){h':Heap}{t':Nat}{ch:List Addr}{ys:List V}{its:List Value}(hf:∀b∈ch,fi X BN H b)(rv:ar ys its)(hz:ys.length<=sizeLine)(hch:s.heap.objs.size∉ch)
  (ht:h'.get? s.heap.objs.size=some { cls:=.type "tuple",data:=.seq its.toArray}) (k:∀b o,b∉ch->s.heap.get? b=some o->h'.get? b=some o) :
  Inv X BN σ (upd H s.heap.objs.size (.tup ys)) { s with heap:=h',toks:=t'}/\(∀b∈ch,(upd H s.heap.objs.size (.tup ys)) b=none)/\H s.heap.objs.size=none:=by
 have hfr:=I.hok.fresh (qag s.heap.objs.size);have hne:∀b∈ch,b≠s.heap.objs.size:=fun b hb z=>hch (by rw[<-z];exact hb);have I1:Inv X BN σ (upd H s.heap.objs.size (.tup ys)) { s with heap:=s.heap.push { cls:=.type "tuple",data:=.seq its.toArray},toks:=s.toks} :=
  I.laid (o:=.tup ys) (fun b u q=>qae _ q) (qag _) ⟨hz,its,rv,_,qaz _ rfl,rfl,⟨_,rfl⟩,rfl⟩
 have hup:∀b∈ch,(upd H s.heap.objs.size (.tup ys)) b=none:=fun b hb=>by rw[aH (hne b hb)];exact (hf b hb).1
 refine⟨?_,hup,hfr⟩;refine ju (t':=t') I1 (ch:=ch) (fun b hb=>⟨hup b hb,(hf b hb).2⟩) fun b o hb e=>?_;by_cases z:b=s.heap.objs.size
 ·subst z;have e':(s.heap.push { cls:=.type "tuple",data:=.seq its.toArray}).get? s.heap.objs.size=some { cls:=.type "tuple",data:=.seq its.toArray}:=qaz _ rfl;rw[show ({ s with heap:=s.heap.push { cls:=.type "tuple",data:=.seq its.toArray},toks:=s.toks}:Shared).heap=s.heap.push { cls:=.type "tuple",data:=.seq its.toArray} from rfl,e'] at e;cases e;exact ht
 ·have e':(s.heap.push { cls:=.type "tuple",data:=.seq its.toArray}).get? b=some o:=e;rw[Heap.get?_push_ne _ _ _ z] at e';exact k b o hb e'
end
def Ite(K:qaa)(tp:Bool)(a:Addr):It :=
 ⟨fun i H=>∃ys y,SqB tp K H a ys/\ys[i]?=some y,fun i H x H'=>∃p y,H p=none/\x=.ref p/\H'=upd H p (.tup [.int i,y])/\∀ys,SqB tp K H a ys->ys[i]?=some y,fun i H=>∃ys,SqB tp K H a ys/\ys.length<=i⟩
theorem sD{P:Program}{w:World}{K:qaa}{elts:List Expr}{x1:Nat}{pos:Pos}(tp:Bool)(a e it:Addr)(hei:e≠it)(hae:a≠e)(hai:a≠it) :
  Turn P w K (.Tuple elts x1 pos) (Ite K tp a) [e,it] e (fun i h=>(∃old,IsEnum h e it i old)/\SqI tp h it a i) where
 mem:=by simp
 obj:=fun i h st b hb=>by
  obtain⟨⟨old,he⟩,hi⟩:=st
  have:b=e\/b=it:=by simpa using hb
  rcases this with rfl|rfl
  ·exact⟨_,he,fun v z=>nomatch z⟩
  ·obtain⟨o,ho,hc,hd⟩:=hi;exact⟨o,ho,fun v z=>by rw[hd] at z;cases z⟩
 keep:=fun i h h' st k=>let ⟨⟨old,he⟩,hi⟩:=st;⟨⟨old,k e (by simp) _ he⟩,hi.at' fun o q=>k it (by simp) o q⟩
 item:=by
  intro X hP hw hK hc i BN s σ H E I hf st hg;subst hP hw hK;obtain⟨⟨old,he⟩,hi⟩:=st;obtain⟨ys,y,hq,hy⟩:=hg;obtain⟨its,rv,so,hz⟩:=oi I hq;obtain⟨u,hu,ru⟩:=rv.get hy;have hlt:i<its.toArray.size:=by
   have:=(qab.mp hu).1
   simpa using this
  have hin:(X.A.in1).handled=none:=by have:=I.ok.hd hc;simpa using this
  refine wpAny_pyNext_enum_itemD (draws hin tp it a hai its.toArray) he ⟨hi,so⟩ hlt hei (by simp[hei,Ne.symm hae]) fun x h1 tk hx ho1 st1 ht1 hz1 hk1=>⟨_,rfl,?_⟩;have hxu:x=u:=by
   have:its.toArray[i]?=some u:=by simpa using hu
   rw[this] at hx;exact (Option.some.inj hx).symm
  subst hxu;refine wpAny_letOwnedTupleGo_enum (s:={ s with heap:=h1,toks:=tk+1}) ho1 fun h2 he2 sb2=>?_;replace sb2:Heap.SameBut e h1 h2:=sb2;have hlte:e<s.heap.objs.size:=qao he;have hlti:it<s.heap.objs.size:=hi.lt;obtain⟨I2,hup,hfr⟩:=inv_tup (t':=tk+1) (h':=h2) I (ch:=[e,it]) (ys:=[.int i,y]) (its:=[.int i tk,x]) hf (.cons ⟨tk,rfl⟩ (.cons ru .nil)) (by rw[sizeLine_eq];show 2<=_;decide)
   (by simp only[qan,qbi,or_false,not_or];exact⟨qbQ hlte,qbQ hlti⟩)
   ((sb2.2 _ (qbQ hlte)).trans ht1)
   (fun b o hb q=>by
    have h1':b≠e:=fun z=>hb (by simp[z]);have h2':b≠it:=fun z=>hb (by simp[z])
    exact (sb2.2 b h1').trans (hk1 b o h1' h2' q))
  refine⟨.ref s.heap.objs.size,_,I2,rfl,⟨_,y,hfr,rfl,rfl,fun zs hzs=>by rw[inv_sqi I hzs hq];exact hy⟩,⟨⟨x,by simpa using he2⟩,?_⟩,hup⟩;exact st1.1.at' fun o q=>(sb2.2 it (Ne.symm hei)).trans q
 done:=by
  intro X hP hw hK hc i BN s σ H E I hf st hg;subst hP hw hK;obtain⟨⟨old,he⟩,hi⟩:=st;obtain⟨ys,hq,hy⟩:=hg;obtain⟨its,rv,so,hz⟩:=oi I hq;have hin:(X.A.in1).handled=none:=by have:=I.ok.hd hc;simpa using this
  have hlen:=rv.length;have hT:s.TypeIs (.ref e) "enumerate":=⟨_,he,rfl⟩;unfold pyNext;refine qah (wpAny_attempt (wpAny_callSpecial?_slot (name:=Str.ofString "__next__") hT PySem.F.slot_enumerate_next (wpAny_call_entry PySem.F.slot_enumerate_next hT PySem.F.entry_enumerate_next ?_ (PySem.F.args_enumerate_next_1 _))));show wpAny _ _ (field (.ref e) 2 >>= _) _ _ _;refine qah (wpAny_field he rfl (x:=.ref it) rfl ?_);refine qah (mF hin hi so (by simp;omega) fun h1 x he' hx'=>?_);obtain⟨o,ho,hcx⟩:=hx';refine qah (wpAny_isInstance (T:="StopIteration") (b:=true) ⟨o,ho,hcx⟩ isSubtype_stop ?_);refine qaw ⟨rfl,ju (t':=s.toks) I hf fun b o hb q=>he' b o (fun z=>hb (by simp[z])) q⟩
 self:=fun A i s Q E st h=>let ⟨⟨old,he⟩,_⟩:=st;wpAny_pyIter_enum he h
noncomputable def dj(v:PV)(h:MH):Option (Bool × List PV × List (Nat × List PV)):=match v with
 | .loc n=>(match h[n]? with
  | some (.lst xs)=>some (false,xs,[(n,xs)])
  | _=>none)
 | .frl xs=>some (false,xs,[])
 | .tup xs=>some (true,xs,[])
 | _=>none
theorem sq_rel{X:Cx}{ρ:List Addr}{H:Hp}{h:MH}{x:PV}{y:V}{tp:Bool}{xs:List PV}{gd:List (Nat × List PV)}(rh:RH X.K X.mg ρ H h)(r:RP X.K ρ H x y)(e:dj x h=some (tp,xs,gd)) :
  ∃a,y=.ref a/\(∃ys,SqB tp X.K H a ys)/\∀ρ' H' h',Le ρ H ρ' H'->RH X.K X.mg ρ' H' h'->(∀p∈gd,h'[p.1]?=some (.lst p.2))->∃ys,SqB tp X.K H' a ys/\RPs X.K ρ' H' xs ys:=by
 cases r with
 | frl s r=>cases e;exact⟨_,rfl,⟨_,s.sq⟩,fun ρ' H' h' l _ _=>⟨_,(l.sqf s).sq,r.le l⟩⟩
 | tup s r=>cases e;exact⟨_,rfl,⟨_,s⟩,fun ρ' H' h' l _ _=>⟨_,l.sqt s,r.le l⟩⟩
 | @loc n a en =>
  obtain⟨o,eo,ro⟩:=rh.obj en;unfold dj at e;dsimp only at e;rw[eo] at e
  cases o with
  | lst zs =>
   cases e;obtain⟨ys,ey,ry⟩:=ro;refine⟨a,rfl,⟨ys,SqL.of ey⟩,fun ρ' H' h' l rh' ok=>?_⟩;obtain⟨ys',ey',ry'⟩:=rh'.at' n a _ (l.get en) (ok (n,xs) (by simp));exact⟨ys',SqL.of ey',ry'⟩
  | _=>cases e
 | _=>cases e
def eW(xs:List PV):List PV:=xs.zipIdx.map fun p=>.tup [.int (p.2:Int),p.1]
theorem q5{xs:List PV}{i:Nat}{x:PV}(h:xs[i]?=some x):(eW xs)[i]?=some (.tup [.int (i:Int),x]):=by
 unfold eW;rw[qax,qbX,h];simp
theorem kW(xs:List PV):(eW xs).length=xs.length:=by simp[eW]
noncomputable def nr(m:Mx (List PV)):Mx MIt:=fun σ h=>(m σ h).bind fun vs h1=>match vs with
 | [x]=>(match dj x h1 with
  | some (_,xs,gd)=>.ok ⟨eW xs,gd⟩ h1
  | none=>.bad)
 | _=>.bad
section
variable {X:Cx} {N W G:List Str} {k:Nat}
theorem mi_enum(g:Good X N W G k){elts:List Expr}{x1:Nat}{tp:Pos}{a:Expr}{m:Mx (List PV)}{p pos:Pos}{j:Nat}(hj:G[j]?=some "enumerate")(hm:X.mg "enumerate"=none)(ha:MA X [a] m)
  (hs:starEach [a] X.env=[(false,eval a X.env)]:=by rfl):MI X (.Tuple elts x1 tp) (.Call (.Name "enumerate" p) [a] [] pos) (nr m):=by
 have d:=g.dbg _ (qac _ (aw hj));intro BN s σ H R I ⟨ρ,σp,h,rs,rh,q⟩;refine wpAny_Call_Name_kw (fB I (g.gl _ (aw hj)) hm PyProof.Rows.Boot.«enumerate» ?_ d.2.2 d.1)
 refine PyProof.Rows.callWith_type1 (thn (ha pos BN s σ H (fun vs H1=>∃ρ1 h1 xs,Le ρ H ρ1 H1/\RH X.K X.mg ρ1 H1 h1/\RPs X.K ρ1 H1 xs vs/\Ful X (nu X) σp ρ1 H1 ((match xs with
   | [x]=>(match dj x h1 with | some (_,xs,gd)=>.ok ⟨eW xs,gd⟩ h1 | none=>.bad)
   | _=>.bad:Out MIt)) R) I ⟨ρ,σp,h,rs,rh,Ful.bind q fun ρ1 H1 v v' h1 _ l1 rh1 rv q1=>⟨ρ1,h1,v,l1,rh1,rv,q1⟩⟩) fun us s1 ⟨vs,H1,I1,r1,ρ1,h1,xs,l1,rh1,rv,q1⟩=>?_) hs rfl
 cases rv with
 | nil=>exact q1.elim
 | @cons y y' ys ys' ry t1 =>
  cases t1 with
  | cons _ _=>exact q1.elim
  | nil =>
   dsimp only at q1
   cases hsq:dj y h1 with
   | none=>rw[hsq] at q1;exact q1.elim
   | some z =>
    obtain⟨b,zs,gd⟩:=z;rw[hsq] at q1;obtain⟨ad,rfl,⟨ws,hws⟩,rel⟩:=sq_rel rh1 ry hsq;obtain⟨u,rfl,rx⟩:=dC r1;cases rx;obtain⟨its,rvv,so,hz⟩:=oi I1 hws;refine sk so fun h' he hi hsz hk=>?_;have hT:Shared.TypeIs { s1 with heap:=h'} (.ref (s1.heap.objs.size+1)) "enumerate":=⟨_,he,rfl⟩;refine wpAny_pyIter_enum he ?_;have I2:Inv X BN σ H1 { s1 with heap:=h',toks:=s1.toks}:=I1.kept hk;obtain⟨oa,hoa,hca,_⟩:=id so;have hlt:ad<s1.heap.objs.size:=qao hoa;have hfr0:=I1.hok.fresh (qag s1.heap.objs.size);have hfr1:=I1.hok.fresh (qcu s1.heap.objs.size);refine⟨s1.heap.objs.size+1,_,_,_,H1,rfl,I2,sD b ad _ s1.heap.objs.size (qbQ (qbT _)) (qaJ (qch hlt)) (qaJ hlt),⟨⟨_,he⟩,hi⟩,fun c hc=>?_,?_⟩
    ·have:c=s1.heap.objs.size+1\/c=s1.heap.objs.size:=by simpa using hc
     rcases this with rfl|rfl
     ·have F:=Inv.fpOk I1 (H':=H1) (b:=s1.heap.objs.size+1) (qcu _) hfr1;exact F
     ·exact Inv.fpOk I1 (H':=H1) (qag _) hfr0
    ·refine q1 ρ1 H1 _ (Le.refl _ _) rh1 ?_;intro ρ' H' h2 i l rh' ok;obtain⟨ws',hws',rws⟩:=rel ρ' H' h2 l rh' ok;refine⟨fun hi'=>?_,fun hi'=>⟨ws',hws',by rw[<-rws.length];rw[kW] at hi';exact hi'⟩⟩;rw[kW] at hi';have hx:zs[i]?=some (zs[i]'hi'):=qaB hi';obtain⟨w',ew,rw'⟩:=rws.get hx;refine⟨⟨ws',w',hws',ew⟩,fun x' H3 ⟨pp,y2,hp,e1,e2,hall⟩=>?_⟩;subst e1;subst e2;have ey:y2=w':=by
      have:=hall ws' hws'
      rw[ew] at this;exact (Option.some.inj this).symm
     subst ey;obtain⟨rh3,l3⟩:=rh'.tup hp [.int i,y2];exact⟨ρ',_,l3,rh3,q5 hx,.tup (SqT.of bz) (.cons (.int _) (.cons (rw'.le l3) .nil))⟩
end
end MM
namespace MM
open PySem PySem.Spec PyProof.Rows L2 SetT SortT
def di:List PV->Option (List Int)
 | []=>some []
 | .int i::r=>(di r).map (i::·)
 | _=>none
def cN(l:List Int):List Int:=l.mergeSort fun a b=>decide (a<=b)
theorem dv(l:List Int):(cN l).Perm l:=List.mergeSort_perm _ _
theorem nT(l:List Int):(cN l).Pairwise (·<=·):=by
 have:=qcj (le:=fun a b:Int=>decide (a<=b)) (l:=l) (fun a b c h1 h2=>by
   simp only[decide_eq_true_eq] at h1 h2 ⊢;omega) (fun a b=>by
   simp only[Bool.or_eq_true,decide_eq_true_eq];omega)
 unfold cN;exact this.imp fun {a b} h=>by simpa using h
theorem iK{l m:List Int}(h1:l.Pairwise (·<=·))(h2:m.Pairwise (·<=·))(p:l.Perm m):l=m :=
 List.Perm.eq_of_pairwise (fun a b _ _ x y=>by omega) h1 h2 p
theorem pQ:∀{xs:List PV} {k:List Int},di xs=some k->xs=k.map .int
 | [],k,h=>by cases h;rfl
 | x::r,k,h=>by
  cases x with
  | int i =>
   unfold di at h
   cases hr:di r with
   | none=>rw[hr] at h;cases h
   | some kr =>
    rw[hr] at h;cases h;rw[pQ hr];rfl
  | _=>cases h
noncomputable def fSorted(xs:List PV)(h:MH):Out PV:=match xs with
 | [x]=>(match eT h x with
  | some ys=>(match di ys with
   | some ns=>if ns.length<64 then .ok (.loc h.length) (h++[.lst ((cN ns).map .int)]) else .bad
   | none=>(match gN ys with
    | some ks=>if (∀k∈ks,k≠[])/\ks.length<=66 then .ok (.loc h.length) (h++[.lst ((ff ks).map kP)]) else .bad
    | none=>.bad))
  | none=>.bad)
 | _=>.bad
theorem nh:∀{ns:List Int} {its:List Value},ar (ns.map V.int) its->IntsAre its ns
 | [],_,h=>by cases h;exact .nil
 | i::k,_,h=>by
  cases h with
  | cons r t =>
   obtain⟨tk,rfl⟩:=r;exact .cons i tk (nh t)
theorem jc:∀{ns:List Int} {its:List Value},IntsAre its ns->ar (ns.map V.int) its
 | _,_,.nil=>.nil
 | _,_,.cons n t h=>.cons ⟨t,rfl⟩ (jc h)
section
variable {X:Cx} {N W G:List Str} {k:Nat}
theorem nS:bK X (.builtin "sorted") (fun xs H Q=>∃l ns,xs=[.ref l]/\SqL X.K H l (ns.map V.int)/\ns.length<64/\∀l',H l'=none->Q (.ref l') (upd H l' (.lst ((cN ns).map V.int)))):=by
 intro BN s σ H xs us Q I r ⟨l,ns,e,hq,hz,q⟩;subst e;obtain⟨u,rfl,rx⟩:=dC r;cases rx;obtain⟨its,rv,pl,hz2⟩:=I.list hq;have hlen:=rv.length;rw[qaC] at hlen;refine sorted_ints pl.isList (nh rv) (by omega) fun out ns' h1 h2 h3=>?_;have e:ns'=cN ns:=iK h3 (nT ns) (h2.trans (dv ns).symm);subst e;have hsz:((s.heap.push (seqObj "list" #[] 0)).update s.heap.objs.size (Obj.mapSeq (·++its.toArray))).objs.size=s.heap.objs.size+1:=by rw[Heap.size_update,size_push']
 have hoL:(((s.heap.push (seqObj "list" #[] 0)).update s.heap.objs.size (Obj.mapSeq (·++its.toArray))).push (seqObj "list" its.toArray 0)).get? (s.heap.objs.size+1)=some (seqObj "list" its.toArray 0):=by
  rw[<-hsz];exact qaz _ rfl
 obtain⟨c,hc⟩:=eR (vs:=its) hoL out;have hlo:out.toList.length=ns.length:=by
  have a1:=(jc h1).length;rw[qaC,(dv ns).length_eq] at a1;exact a1.symm
 refine⟨.ref (s.heap.objs.size+1),_,I.laid (o:=.lst ((cN ns).map V.int)) (t':=s.toks) (fun b o hb=>?_) (qcu _) (show ObjOk X.prog X.w _ _ _ (.lst _) from⟨?_,out.toList,c,jc h1,?_⟩),rfl,q _ (I.hok.fresh (qcu _))⟩
 ·have hlt:b<s.heap.objs.size:=qao hb;unfold sortedAll;refine d9 (qaJ (qch hlt)) ?_ _;refine qae _ ?_;rw[qbs _ _ _ _ (qaJ hlt)];exact qae _ hb
 ·rw[qaC,(dv ns).length_eq,sizeLine_eq];omega
 ·unfold sortedAll;rw[hc]
theorem sJ:bY X (.builtin "sorted") fSorted:=by
 intro BN s σ H xs us Q I r ⟨ρ,h,ps,rh,rp,q⟩
 cases rp with
 | nil=>exact q.elim
 | @cons x y _ _ r1 t1 =>
  cases t1 with
  | cons _ _=>exact q.elim
  | nil =>
   unfold fSorted at q;dsimp only at q
   cases hl:eT h x with
   | none=>rw[hl] at q;exact q.elim
   | some zs =>
    rw[hl] at q;dsimp only at q;obtain⟨la,ys,rfl,hsq,rzs⟩:=lst_rel rh r1 hl
    cases hi:di zs with
    | some ns =>
     rw[hi] at q;dsimp only at q;by_cases z:ns.length<64
     ·rw[qaf z] at q;rw[pQ hi] at rzs;rw[vints rzs] at hsq;refine nS BN s σ H _ us Q I r ⟨la,ns,rfl,hsq,z,fun l hl2=>?_⟩;obtain⟨rh3,l3⟩:=rh.new hl2 (o:=.lst ((cN ns).map .int)) (ho:=.lst ((cN ns).map V.int)) ⟨_,rfl,RPs.ints _⟩;exact q _ _ _ l3 rh3 (.loc (by rw[<-rh.len];simp))
     ·rw[qai z] at q;exact q.elim
    | none =>
     rw[hi] at q;dsimp only at q
     cases hk:gN zs with
     | none=>rw[hk] at q;exact q.elim
     | some ks =>
      rw[hk] at q;dsimp only at q;by_cases z:(∀k∈ks,k≠[])/\ks.length<=66
      ·rw[qaf z] at q;rw[pA hk] at rzs;refine nQ BN s σ H _ us Q I r ⟨la,ys,ks,rfl,hsq,oW rzs,z.1,z.2,fun l ys' hl2 tk=>?_⟩;obtain⟨rh3,l3⟩:=rh.new hl2 (o:=.lst ((ff ks).map kP)) (ho:=.lst ys') ⟨_,rfl,o6 tk⟩;exact q _ _ _ l3 rh3 (.loc (by rw[<-rh.len];simp))
      ·rw[qai z] at q;exact q.elim
end
end MM
namespace MM
open PySem PySem.Spec PyProof.Rows L2
noncomputable local instance (priority:=1) cdec26 (p:Prop):Decidable p:=Classical.propDecidable p
theorem pq(I:Nat->PSt->MH->Prop):∀(xs:List PV) (j:Nat) (σ:PSt) (h:MH),I j σ h->(∀j σ h,I j σ h->it.ok h) ->
  (∀m σ h x,I (j+m) σ h->xs[m]?=some x->∃σ1 h1 σ' h',g x σ h=.nx σ1 h1/\b σ1 h1=.nx σ' h'/\I (j+m+1) σ' h') ->
  ∃σ' h',mGo it g b xs σ h=.nx σ' h'/\I (j+xs.length) σ' h'
 | [],j,σ,h,hI,hok,_=>⟨σ,h,mGo_nil (hok _ _ _ hI),hI⟩
 | x::r,j,σ,h,hI,hok,st=>by
  obtain⟨σ1,h1,σ2,h2,e1,e2,I1⟩:=st 0 σ h x hI rfl;obtain⟨σ3,h3,e3,I3⟩:=pq I r (j+1) σ2 h2 I1 hok fun m σ' h' y q z=>by
   have:=st (m+1) σ' h' y (by rw[show j+(m+1)=j+1+m by omega];exact q) (by simpa using z)
   rw[show j+(m+1)+1=j+1+m+1 by omega] at this;exact this
  refine⟨σ3,h3,?_,by rw[qaM,show j+(r.length+1)=j+1+r.length by omega];exact I3⟩;rw[uE (hok _ _ _ hI) e1,e2];exact e3
end MM
namespace MM
open PySem PySem.Spec PyProof.Rows L2 SetT SortT
section
variable {h:MH} {i:Int} {xs:List PV} {n:Nat}
end
theorem itR1'(em:m σ h=.ok [.int j] h1)(z:-(2 ^ 62)<=j/\j<2 ^ 62):gc m σ h=.ok ⟨bq 0 j.toNat,[]⟩ h1:=by
 rw[tU,em];simp only[Out.bind_ok];rw[qaf z]
theorem itR1(em:m σ h=.ok [.int (n:Int)] h1)(hn:n<=100000):gc m σ h=.ok ⟨bq 0 n,[]⟩ h1:=by
 have z1:-(2 ^ 62)<=(n:Int):=Int.le_trans (by decide) (Int.natCast_nonneg n);have z2:(n:Int)<2 ^ 62:=Int.lt_of_le_of_lt (Int.ofNat_le.mpr hn) (by decide)
 have:=itR1' em ⟨z1,z2⟩
 rwa [qaT] at this
theorem eB:∀(k:List Int),PyData.canLayAll0 (k.map .int)=true/\PyData.depthAll (k.map .int)<=1
 | []=>⟨rfl,by simp[PyData.depthAll]⟩
 | i::k=>by
  obtain⟨a,b⟩:=eB k;constructor
  ·simp[PyData.canLayAll0,PyData.canLay0,a]
  ·simp only[qaL,PyData.depthAll,PyData.depth];omega
end MM
namespace MM
open PySem PySem.Spec PyProof.Rows L2
noncomputable local instance (priority:=1) cdec28 (p:Prop):Decidable p:=Classical.propDecidable p
def ja(h:MH):PV->Option Bool
 | .non=>some false
 | .bl b=>some b
 | .int i=>some (i != 0)
 | .str _=>none
 | .tup xs=>some (!xs.isEmpty)
 | .frl xs=>some (!xs.isEmpty)
 | .loc n=>match h[n]? with
  | some (.lst xs)=>some (!xs.isEmpty)
  | _=>none
def mTr(m:Mx PV):Mx Bool:=fun σ h=>(m σ h).bind fun v h1=>match ja h1 v with
 | some b=>.ok b h1
 | none=>.bad
section
variable {X:Cx} {N W G:List Str} {k:Nat}
theorem gQ{K:qaa}{ρ:List Addr}{H:Hp}{xs:List PV}{ys:List V}(r:RPs K ρ H xs ys):(!xs.isEmpty)=!ys.isEmpty:=by
 cases r <;> rfl
theorem mt_tru{e:Expr}{m:Mx PV}(h:ME X e m)(he:∀whole,isTrue e X.env whole=(do let v <-whole;standAt e.pos;holding [v] (truthy v)):=by intro _;rfl):MT X e (mTr m):=by
 refine PT.imp (tq h he) fun σ H Q ⟨ρ,σp,h,rs,rh,q⟩=>⟨ρ,σp,h,rs,rh,Ful.bind q fun ρ1 H1 x x' h1 _ l1 rh1 rx q1=>?_⟩
 cases rx with
 | non=>exact⟨false,rfl,q1 ρ1 H1 _ (Le.refl _ _) rh1 rfl⟩
 | bl b=>exact⟨b,rfl,q1 ρ1 H1 _ (Le.refl _ _) rh1 rfl⟩
 | int i=>exact⟨_,rfl,q1 ρ1 H1 _ (Le.refl _ _) rh1 rfl⟩
 | str i=>exact q1.elim
 | @tup xs a ys s r=>exact⟨_,.inr (.inl ⟨ys,s,rfl⟩),by rw[<-gQ r];exact q1 ρ1 H1 _ (Le.refl _ _) rh1 rfl⟩
 | @frl xs a ys s r=>exact⟨_,.inl ⟨ys,s.sq,rfl⟩,by rw[<-gQ r];exact q1 ρ1 H1 _ (Le.refl _ _) rh1 rfl⟩
 | @loc n a e =>
  obtain⟨o,eo,ro⟩:=rh1.obj e
  cases o with
  | lst xs =>
   obtain⟨ys,ey,ry⟩:=ro;simp only[ja,eo] at q1;exact⟨_,.inl ⟨ys,.inl (.inl ey),rfl⟩,by rw[<-gQ ry];exact q1 ρ1 H1 _ (Le.refl _ _) rh1 rfl⟩
  | dic kvs=>simp only[ja,eo] at q1;exact q1.elim
  | exc z=>simp only[ja,eo] at q1;exact q1.elim
inductive IsAll (K:qaa) (mg:MGl) (cs:List Str):List Addr->List Str->Prop where
 | nil:IsAll K mg cs [] []
 | cons {D:Addr} {sup:List Str} {Ds:List Addr} {sups:List Str} (h:IsiC K mg (.ref D) cs sup) (t:IsAll K mg cs Ds sups):IsAll K mg cs (D::Ds) (sup++sups)
def tCs(Ds:List Addr):TA:=fun σ H Q=>Q (Ds.map V.ref) H
def ICs(X:Cx)(cs:List Str)(es:List Expr)(sups:List Str):Prop:=∃Ds,IsAll X.K X.mg cs Ds sups/\PA X es (tCs Ds)/\Ds.length=es.length
theorem ics_nil:ICs X cs [] []:=⟨[],.nil,PA.imp eE fun σ H Q q=>q,rfl⟩
theorem cP(g:Good X N W G k){c:Str}{cs sup sups:List Str}{j:Nat}{q:Pos}{es:List Expr}(hj:G[j]?=some c)(IC:∃D,X.mg c=some (.ref D)/\IsiC X.K X.mg (.ref D) cs sup)(t:ICs X cs es sups)
  (he:starEach (.Name c q::es) X.env=(false,eval (.Name c q) X.env)::starEach es X.env:=by rfl):ICs X cs (.Name c q::es) (sup++sups):=by
 obtain⟨D,hm,hi⟩:=IC;obtain⟨Ds,ha,hp,hl⟩:=t;have d:=g.dbg c (qac _ (aw hj));exact⟨D::Ds,.cons hi ha,PA.imp (bU (pi (v:=.ref D) (u:=.ref D) (g.gl c (aw hj)) hm rfl d.1) hp he) fun σ H Q q=>q,congrArg (·+1) hl⟩
theorem oB{K:qaa}{mg:MGl}{cs:List Str}{Ds:List Addr}{sups:List Str}(h:IsAll K mg cs Ds sups){t:String}(ht:t∈["NoneType","bool","int","str","tuple","list","dict"]):PySem.W.kitAny K (.type t) (Ds.map Value.ref)=some false:=by
 induction h with
 | nil=>rfl
 | cons hi _ ih=>rw[qaL];unfold PySem.W.kitAny;rw[hi.ty t ht];exact ih
theorem qM{K:qaa}{mg:MGl}{cs:List Str}{Ds:List Addr}{sups:List Str}(h:IsAll K mg cs Ds sups){x:Str}(hx:x∈cs){C:Addr}(hm:mg x=some (.ref C)):PySem.W.kitAny K (.ref C) (Ds.map Value.ref)=some (sups.contains x):=by
 induction h with
 | nil=>rfl
 | @cons D sup Ds sups hi _ ih =>
  rw[qaL];unfold PySem.W.kitAny;obtain⟨C',hm',_,_,hk⟩:=hi.ex x hx;rw[hm] at hm';cases hm';rw[hk]
  cases z:sup.contains x with
  | true =>
   have:(sup++sups).contains x=true:=by rw[qbm] at z ⊢;exact qay _ z
   rw[this]
  | false =>
   have:(sup++sups).contains x=sups.contains x:=by
    have z':x∉sup:=fun y=>by rw[<-qbm] at y;rw[y] at z;cases z
    cases y:sups.contains x with
    | true=>rw[qbm] at y ⊢;exact qac _ y
    | false =>
     have y':x∉sups:=fun q=>by rw[<-qbm] at q;rw[q] at y;cases y
     cases w:(sup++sups).contains x with
     | false=>rfl
     | true=>rw[qbm] at w;rcases qav.mp w with q | q;exact absurd q z';exact absurd q y'
   rw[this];exact ih
theorem rf{Ds:List Addr}:∀{its:List Value},ar (Ds.map V.ref) its->its=Ds.map Value.ref:=by
 induction Ds with
 | nil=>intro its r;cases r;rfl
 | cons D Ds ih =>
  intro its r
  cases r with
  | cons r1 r2=>rw[ih r2];cases r1;rfl
theorem t7(g:Good X N W G k){a:Expr}{m:Mx PV}{es:List Expr}{cs sups:List Str}{i:Nat}{p pos pt:Pos}{kt}(hi:G[i]?=some "isinstance")(hm:X.mg "isinstance"=none)(IC:ICs X cs es sups){c0:Str}{sup0:List Str}(IC0:∃D,X.mg c0=some (.ref D)/\IsiC X.K X.mg (.ref D) cs sup0)(hl:es.length<=100)(ha:ME X a m)
  (he:starEach [a,.Tuple es kt pt] X.env=(false,eval a X.env)::starEach [.Tuple es kt pt] X.env:=by rfl) (he2:starEach [.Tuple es kt pt] X.env=[(false,eval (.Tuple es kt pt) X.env)]:=by rfl) (hpl:(backTo pos (starEach [.Tuple es kt pt] X.env)).any (·.1)=false:=by rfl) :
  ME X (.Call (.Name "isinstance" p) [a,.Tuple es kt pt] [] pos) (mUn (be cs sups) m):=by
 obtain⟨Ds,hall,hpa,hlen⟩:=IC;obtain⟨D0,_,hi0⟩:=IC0;have d1:=g.dbg _ (qac _ (aw hi));have hcall:bK X (.builtin "isinstance") (fun xs H Q=>∃x' tp,xs=[x',.ref tp]/\SqT X.K H tp (Ds.map V.ref)/\uJ X (be cs sups) x' H Q):=by
  intro BN s σ H xs us Q I r ⟨x',tp,e,hsq,ρ,h,x,rh,rx,q⟩;subst e
  cases r with
  | cons r1 t1=>cases t1 with
   | cons r2 t2 =>
    cases t2;cases r2;obtain⟨its,rv,ht,_⟩:=I.tuple hsq;have ei:=rf rv;subst ei;obtain⟨⟨oc,od,odt,osl⟩,ho,hoc,nn,hod⟩:=ht;dsimp only at hoc hod;subst hoc;subst hod;have plain:∀t,tyP h x=some t->be cs sups x h=.ok (.bl false) h->wpAny (model X.prog X.w) X.A (call (.builtin "isinstance") [_,_]) (EP X BN σ Q) X.xe s:=fun t et ef=>by
     rw[ef] at q;obtain⟨htm,hne,Hq,Z,hz⟩:=ko I rh rx r1 et;exact PySem.W.kia_tup Z I.kIn hz ho (oB hall htm) hne fun tk=>⟨.bl _,H,I.tok _,rfl,q ρ H _ (Le.refl _ _) rh (.bl _)⟩
    cases x with
    | non=>exact plain _ rfl rfl
    | bl b=>exact plain _ rfl rfl
    | int i=>exact plain _ rfl rfl
    | str i=>exact plain _ rfl rfl
    | tup i=>exact plain _ rfl rfl
    | frl i=>exact plain _ rfl rfl
    | loc n =>
     cases en:h[n]? with
     | none=>simp only[be,en] at q;exact q.elim
     | some o =>
      cases o with
      | lst xs=>exact plain "list" (by simp[tyP,en]) (by simp[be,en])
      | dic xs=>exact plain "dict" (by simp[tyP,en]) (by simp[be,en])
      | exc ex =>
       simp only[be,en] at q;by_cases hc:cs.contains ex.cls=true
       ·rw[qaf hc] at q
        cases rx with
        | @loc n a e =>
         cases r1;obtain⟨o',eo',ro⟩:=rh.obj e;rw[en] at eo';cases eo';obtain⟨_,C,hmc,hH⟩:=ro;have hx:ex.cls∈cs:=by simpa using hc
         obtain⟨C',hm',EQ,hcd,_⟩:=hi0.ex ex.cls hx;rw[hmc] at hm';cases hm';obtain⟨hz,_,_⟩:=(show ObjOk X.prog X.w H s.heap a (.ext (dO a C)) from I.hok a _ hH);exact PySem.W.kia_tup (om EQ hcd) I.kIn hz ho (qM hall hx hmc) (fun z=>nomatch z) fun tk=>⟨.bl _,H,I.tok _,rfl,q ρ H _ (Le.refl _ _) rh (.bl _)⟩
       ·rw[qai hc] at q;exact q.elim
 refine PE.imp (eG hcall (g.gl _ (aw hi)) hm PyProof.Rows.Boot.«isinstance» (bU ha (bU (sd hpa) eE he2) he) d1.2.2 d1.1 he hpl) fun σ H Q ⟨ρ,σp,h,rs,rh,q⟩=>?_;refine⟨ρ,σp,h,rs,rh,Ful.bind q fun ρ1 H1 x x' h1 _ l1 rh1 rx q1=>?_⟩;refine⟨by rw[qaC,hlen];exact qaA hl (by decide),fun tp htp=>?_⟩;obtain⟨rh2,l2⟩:=rh1.tup htp (Ds.map V.ref);exact⟨x',tp,rfl,SqT.of bz,ρ1,h1,x,rh2,rx.le l2,(Ful.le l2 q1).zero⟩
end
end MM
namespace MM
open PySem PySem.Spec PyProof.Rows L2 PySem.W
noncomputable local instance (priority:=1) cdec29 (p:Prop):Decidable p:=Classical.propDecidable p
def fg(k:Int):List Int->Option Nat
 | []=>none
 | x::r=>if x=k then some 0 else (fg k r).map (·+1)
theorem sS:isInt k (.int a t)=decide (a=k):=by
 simp[isInt,qbg]
theorem kf_of:∀{ns:List Int} {its:List Value},ar (ns.map V.int) its->kf_ints its=true/\kf_at k its=fg k ns
 | [],_,r=>by cases r;exact⟨rfl,rfl⟩
 | n::ns,_,r=>by
  cases r with
  | cons r1 r2 =>
   obtain⟨t,rfl⟩:=r1;obtain⟨a,b⟩:=kf_of (k:=k) r2;refine⟨a,?_⟩;unfold kf_at fg;rw[sS,b];by_cases z:n=k
   ·simp[z]
   ·simp only[z,decide_false,cond_false,if_false];cases fg k ns <;> rfl
def fG(n:Nat)(vs:List PV)(h:MH):Out PV:=match vs with
 | [.int k]=>(match h[n]? with
  | some (.lst xs)=>(match di xs with
   | some ns=>(match fg k ns with
    | some j=>.ok .non (h.set n (.lst ((ns.eraseIdx j).map .int)))
    | none=>.bad)
   | none=>.bad)
  | _=>.bad)
 | _=>.bad
theorem nB:∀{xs:List PV} {ns:List Int},di xs=some ns->xs=ns.map .int
 | [],ns,e=>by cases e;rfl
 | x::xs,ns,e=>by
  cases x with
  | int i =>
   rw[di,qap] at e;obtain⟨ms,e1,rfl⟩:=e;rw[nB e1];rfl
  | _=>cases e
theorem iO{K:qaa}{ρ:List Addr}{H:Hp}:∀{ns:List Int} {ys:List V},RPs K ρ H (ns.map .int) ys->ys=ns.map V.int
 | [],_,r=>by cases r;rfl
 | n::ns,_,r=>by cases r with | cons r1 r2=>cases r1;rw[iO r2];rfl
section
variable {X:Cx}
theorem rS:MtR X "list.remove" (mtJ X fG):=by
 intro BN s σ H x vs v us Q I rx rv ⟨ρ,h,n,a,ps,e,en,rh,rp,q⟩;subst e;obtain⟨o,eo,ro⟩:=rh.obj en;unfold fG at q
 cases rp with
 | nil=>exact q.elim
 | cons r1 t1 =>
  cases t1 with
  | cons _ _=>cases r1 <;> exact q.elim
  | nil =>
   cases r1 with
   | int k =>
    dsimp only at q;rw[eo] at q
    cases o with
    | lst xs =>
     dsimp only at q
     cases ei:di xs with
     | none=>rw[ei] at q;exact q.elim
     | some ns =>
      rw[ei] at q;dsimp only at q
      cases ej:fg k ns with
      | none=>rw[ej] at q;exact q.elim
      | some j =>
       rw[ej] at q;obtain⟨ys,ey,ry⟩:=ro;rw[nB ei] at ry
       have:=iO ry
       subst this;cases rx
       cases rv with
       | cons rv1 tv1 =>
        cases tv1;obtain⟨t,rfl⟩:=rv1;obtain⟨z,its,nn,r,hlen,e⟩:=I.lstM ey;obtain⟨k1,k2⟩:=kf_of (k:=k) r;rw[ej] at k2;obtain⟨hj,hit,hno⟩:=kf_at_spec k2;obtain⟨rh',l'⟩:=rh.put en (o:=.lst ((ns.eraseIdx j).map .int)) (ho:=.lst ((ns.eraseIdx j).map V.int)) ⟨_,rfl,RPs.ints _⟩;refine call_meets PySem.F.slot_list_remove ⟨_,e,rfl⟩ PySem.F.entry_list_remove (PySem.F.args_list_remove_2 _ _)
         (MeetsSeq.list_remove a its.toArray nn (.int k t) (isInt k) (fun y hy=>kf_eq k1 y (by simpa using hy)) j (by simpa using hj) (by simpa using hit) (fun i hi hlt=>by simpa using hno i (by simpa using hi) hlt) (by rw[qal,<-hlen];exact z)) ⟨e,?_⟩
        have vals:ar ((ns.eraseIdx j).map V.int) (its.eraseIdx j):=by
         have:=r.eraseIdx j
         have em:∀(l:List Int) (j:Nat),(l.map V.int).eraseIdx j=(l.eraseIdx j).map V.int:=fun l=>by
          induction l with
          | nil=>intro j;rfl
          | cons x l ih=>intro j;cases j with | zero=>rfl | succ j=>simp[ih]
         rwa [em] at this
        refine⟨.non,_,I.lset (its':=its.eraseIdx j) ey e ?_ vals ?_,rfl,q ρ _ .non l' rh' .non⟩
        ·apply qaS.mp;simp[Array.toList_eraseIdxIfInBounds]
        ·have h1:((ns.eraseIdx j).map V.int).length<=(ns.map V.int).length:=by
          simp only[qaC];exact List.length_eraseIdx_le ..
         exact qaA h1 z
    | _=>exact q.elim
   | _=>exact q.elim
end
end MM
namespace MM
open PySem PySem.Spec PyProof.Rows L2
section
variable {X:Cx}
variable {o e:Expr} {es:List Expr} {name:Str} {apos cpos:Pos} {id:String} {f:Str→List PV→MH→Out PV} {m:Mx PV} {ma:Mx (List PV)}
end
end MM
namespace L2
open PySem PySem.Spec PyProof.Rows
section
variable {X:Cx} {e st:Expr} {te:TE} {hi:Option Expr} {th ts:TO} {pos p2:Pos}
end
end L2
namespace MM
open PySem PySem.Spec PyProof.Rows L2
noncomputable local instance (priority:=1) cdec32 (p:Prop):Decidable p:=Classical.propDecidable p
section
variable {X:Cx} {pos p2:Pos}
end
noncomputable def lsO(h:MH):PV->Option (List PV)
 | .frl xs=>some xs
 | .loc n=>(match h[n]? with
  | some (.lst xs)=>some xs
  | _=>none)
 | _=>none
noncomputable def opEqL(x y:PV)(h:MH):Out PV:=match lsO h x,lsO h y with
 | some xs,some ys=>if xs.length≠ys.length then .ok (.bl false) h else opEq x y h
 | _,_=>opEq x y h
section
variable {X:Cx} {k:Nat}
theorem lsR{ρ:List Addr}{H:Hp}{h:MH}{x:PV}{x':V}{xs:List PV}(rh:RH X.K X.mg ρ H h)(rx:RP X.K ρ H x x')(e:lsO h x=some xs):∃a ys,x'=.ref a/\SqL X.K H a ys/\RPs X.K ρ H xs ys:=by
 cases rx with
 | frl s r=>cases e;exact⟨_,_,rfl,s.sq,r⟩
 | @loc n a en =>
  obtain⟨o,eo,ro⟩:=rh.obj en;simp only[lsO,eo] at e
  cases o with
  | lst ys =>
   cases e;obtain⟨zs,ez,rz⟩:=ro;exact⟨a,zs,rfl,SqL.of ez,rz⟩
  | _=>cases e
 | _=>cases e
theorem oj_eqL(hr:Room k X.A):OpJ X (compareOp .Eq) opEqL:=by
 intro BN s σ H x' y' u v Q I rx' ry' ⟨ρ,h,x,y,rh,rx,ry,q⟩;unfold opEqL at q
 split at q
 ·rename_i xs ys ex ey
  by_cases z:xs.length≠ys.length
  ·rw[qaf z] at q;obtain⟨a,zs,rfl,hl,rz⟩:=lsR rh rx ex;obtain⟨b,ws,rfl,hb,rw'⟩:=lsR rh ry ey;cases rx';cases ry';obtain⟨its,r1,p1,_⟩:=I.list hl;obtain⟨its2,r2,p2,_⟩:=I.list hb;refine SeqAt.eq_list_lengthsAt p1.isList p2.isList ?_ (by have:=hr.units;omega) ⟨.bl _,H,I,rfl,q ρ H _ (Le.refl _ _) rh (.bl _)⟩;rw[qal,qal,<-r1.length,<-r2.length,<-rz.length,<-rw'.length];simpa using z
  ·rw[qai z] at q;exact jM hr BN s σ H x' y' u v Q I rx' ry' ⟨ρ,h,x,y,rh,rx,ry,q⟩
 ·exact jM hr BN s σ H x' y' u v Q I rx' ry' ⟨ρ,h,x,y,rh,rx,ry,q⟩
end
end MM
namespace MM
open PySem PySem.Spec PyProof.Rows L2 SetT SortT
noncomputable local instance (priority:=1) cdec34 (p:Prop):Decidable p:=Classical.propDecidable p
section
variable {X:Cx} {N W G:List Str} {k:Nat}
end
end MM
namespace L2
open PySem PySem.Spec PyProof.Rows
section
variable {X:Cx} {a:Expr} {ta:TE} {pos:Pos}
end
end L2
namespace MM
open PySem PySem.Spec PyProof.Rows L2
section
variable {X:Cx} {pos:Pos}
end
end MM
namespace PU
open PySem MM
theorem ys{α:Type}{a b:α}(h:a=b):a=b:=h
inductive D where
 | non | bl (b:Bool) | int (i:Int) | str (x:Str) | tup (xs:List D) | lst (xs:List D) | dic | exc (c:Str) | pen
abbrev Pen:=Int × Int × Int
abbrev aq:=List (Option D)
def bG(h:MH)(p:Nat)(s:Pen):Prop:=h[p]?=some (.lst [.int s.1,.int s.2.1,.int s.2.2])
inductive RcT (P:List PV->Prop) (v:PV):Prop
 | mk (xs:List PV) (e:v=.tup xs) (r:P xs):RcT P v
inductive RcL (h:MH) (O:List Nat) (P:List PV->Prop) (v:PV):Prop
 | mk (n:Nat) (xs:List PV) (e:v=.loc n) (no:n∉O) (g:h[n]?=some (.lst xs)) (r:P xs):RcL h O P v
inductive RcO (h:MH) (O:List Nat) (o:MO) (v:PV):Prop
 | mk (n:Nat) (e:v=.loc n) (no:n∉O) (g:h[n]?=some o):RcO h O o v
inductive RcC (P:PV->Prop) (Q:List PV->Prop) (vs:List PV):Prop
 | mk (x:PV) (r:List PV) (e:vs=x::r) (a:P x) (b:Q r):RcC P Q vs
mutual
def Rp(p:Nat)(h:MH)(O:List Nat):D->PV->Prop
 | .non,v=>v=.non
 | .bl b,v=>v=.bl b
 | .int i,v=>v=.int i
 | .str x,v=>v=.str x
 | .tup ds,v=>RcT (Rps p h O ds) v
 | .lst ds,v=>RcL h O (Rps p h O ds) v
 | .dic,v=>RcO h O (.dic []) v
 | .exc c,v=>RcO h O (.exc ⟨c,[]⟩) v
 | .pen,v=>v=.loc p
def Rps(p:Nat)(h:MH)(O:List Nat):List D->List PV->Prop
 | [],vs=>vs=[]
 | d::ds,vs=>RcC (Rp p h O d) (Rps p h O ds) vs
end
theorem aX{h:MH}{n:Nat}{o:MO}(e:h[n]?=some o):n<h.length:=(qab.mp e).1
structure Mv (O:List Nat) (h:MH) (O':List Nat) (h':MH):Prop where
 keep:∀n:Nat,n<h.length->n∉O->h'[n]?=h[n]?
 new:∀o∈O',o∈O\/h.length<=o
theorem Mv.get{O O':List Nat}{h h':MH}(s:Mv O h O' h'){n:Nat}{o:MO}(e:h[n]?=some o)(no:n∉O):n∉O'/\h'[n]?=some o:=by
 have hl:=aX e;refine⟨fun z=>?_,(s.keep n hl no).trans e⟩;rcases s.new n z with q|q
 ·exact no q
 ·omega
section
variable {p:Nat} {O O':List Nat} {h h':MH}
theorem Rp.mv(s:Mv O h O' h')(r:Rp p h O d v):Rp p h' O' d v:=by
 refine D.rec (motive_1:=fun d=>∀v,Rp p h O d v->Rp p h' O' d v) (motive_2:=fun ds=>∀vs,Rps p h O ds vs->Rps p h' O' ds vs)
  (fun _ r=>r) (fun _ _ r=>r) (fun _ _ r=>r) (fun _ _ r=>r) (fun ds i _ r=>?_) (fun ds i _ r=>?_) (fun _ r=>?_) (fun _ _ r=>?_) (fun _ r=>r) (fun _ r=>r) (fun _ _ i j _ r=>?_) d v r
 ·obtain⟨xs,e,r⟩:=r;exact⟨xs,e,i _ r⟩
 ·obtain⟨n,xs,e,no,g,r⟩:=r;exact⟨n,xs,e,(s.get g no).1,(s.get g no).2,i _ r⟩
 ·obtain⟨n,e,no,g⟩:=r;exact⟨n,e,(s.get g no).1,(s.get g no).2⟩
 ·obtain⟨n,e,no,g⟩:=r;exact⟨n,e,(s.get g no).1,(s.get g no).2⟩
 ·obtain⟨x,t,e,a,b⟩:=r;exact⟨x,t,e,i _ a,j _ b⟩
theorem Rps.mv(s:Mv O h O' h')(r:Rps p h O ds vs):Rps p h' O' ds vs:=by
 induction ds generalizing vs with
 | nil=>exact r
 | cons d ds ih=>obtain⟨x,t,e,a,b⟩:=r;exact⟨x,t,e,a.mv s,ih b⟩
theorem Rps.length(r:Rps p h O ds vs):vs.length=ds.length:=by
 induction ds generalizing vs with
 | nil=>rw[show vs=[] from r];rfl
 | cons d ds ih=>obtain⟨x,t,e,a,b⟩:=r;rw[e,qaM,qaM,ih b]
theorem Rps.get{ds:List D}{vs:List PV}{i:Nat}{d:D}(r:Rps p h O ds vs)(g:ds[i]?=some d):∃v,vs[i]?=some v/\Rp p h O d v:=by
 induction ds generalizing vs i with
 | nil=>cases g
 | cons d ds ih =>
  obtain⟨x,t,e,a,b⟩:=r;subst e
  cases i with
  | zero=>cases g;exact⟨x,rfl,a⟩
  | succ i=>have z:=@ih t i b g;exact z
theorem Rps.app(r:Rps p h O ds vs)(s:Rps p h O es ws):Rps p h O (ds++es) (vs++ws):=by
 induction ds generalizing vs with
 | nil=>rw[show vs=[] from r];exact s
 | cons d ds ih=>obtain⟨x,t,e,a,b⟩:=r;subst e;exact⟨x,t++_,rfl,a,ih b⟩
theorem Rps.take(n:Nat)(r:Rps p h O ds vs):Rps p h O (ds.take n) (vs.take n):=by
 induction ds generalizing vs n with
 | nil=>rw[show vs=[] from r];cases n <;> rfl
 | cons d ds ih =>
  obtain⟨x,t,e,a,b⟩:=r;subst e
  cases n with
  | zero=>rfl
  | succ n=>exact⟨x,t.take n,rfl,a,ih n b⟩
theorem Rps.drop(n:Nat)(r:Rps p h O ds vs):Rps p h O (ds.drop n) (vs.drop n):=by
 induction ds generalizing vs n with
 | nil=>rw[show vs=[] from r];cases n <;> rfl
 | cons d ds ih =>
  cases n with
  | zero=>exact r
  | succ n=>obtain⟨x,t,e,a,b⟩:=r;subst e;exact ih n b
theorem Rps.set(i:Nat)(r:Rps p h O ds vs)(q:Rp p h O d v):Rps p h O (ds.set i d) (vs.set i v):=by
 induction ds generalizing vs i with
 | nil=>rw[show vs=[] from r];rfl
 | cons d' ds ih =>
  obtain⟨x,t,e,a,b⟩:=r;subst e
  cases i with
  | zero=>exact⟨v,t,rfl,q,b⟩
  | succ i=>exact⟨x,t.set i v,rfl,a,ih i b⟩
end
inductive VwO (p:Nat) (h:MH) (L:Nat) (O:List Nat) (d:D) (v:PV):Prop
 | mk (n:Nat) (xs:List PV) (ds:List D) (e:d=.lst ds) (e':v=.loc n) (o:n∈O) (l:L<=n) (g:h[n]?=some (.lst xs)) (r:Rps p h O ds xs):VwO p h L O d v
def Vw(p:Nat)(h:MH)(L:Nat)(O:List Nat)(d:D)(v:PV):Prop:=Rp p h O d v\/VwO p h L O d v
def Vws(p:Nat)(h:MH)(L:Nat)(O:List Nat):List D->List PV->Prop
 | [],vs=>vs=[]
 | d::ds,vs=>RcC (Vw p h L O d) (Vws p h L O ds) vs
inductive FrsI (p:Nat) (L:Nat) (O:List Nat) (h:MH) (ds:List D) (v:PV):Prop
 | mk (n:Nat) (xs:List PV) (e:v=.loc n) (l:L<=n) (g:h[n]?=some (.lst xs)) (r:Rps p h (n::O) ds xs):FrsI p L O h ds v
def Frs(p:Nat)(L:Nat)(O:List Nat)(h:MH)(d:D)(v:PV):Prop:=∀ds,d=.lst ds->FrsI p L O h ds v
structure KB (p:Nat) (h h':MH):Prop where
 len:h.length<=h'.length
 keep:∀n:Nat,n<h.length->n≠p->h'[n]?=h[n]?
theorem KB.refl(p:Nat)(h:MH):KB p h h:=⟨qag _,fun _ _ _=>rfl⟩
theorem KB.trans(a:KB p h h1)(b:KB p h1 h2):KB p h h2 :=
 ⟨qaA a.len b.len,fun n hn hp=>(b.keep n (qat hn a.len) hp).trans (a.keep n hn hp)⟩
theorem KB.app(p:Nat)(h g:MH):KB p h (h++g):=⟨by simp,fun n hn _=>qaj hn⟩
theorem KB.mv(k:KB p h h')(hp:p∈O):Mv O h O h' :=
 ⟨fun n hn no=>k.keep n hn fun z=>no (z▸hp),fun o ho=>.inl ho⟩
theorem bG.app{p:Nat}{h g:MH}{s:Pen}(e:bG h p s):bG (h++g) p s:=by
 unfold bG at *;rw[qaj (aX e)];exact e
theorem Vw.kb{p L:Nat}{h h':MH}{O:List Nat}{d:D}{v:PV}(k:KB p h h')(hp:p∈O)(hL:p<L)(w:Vw p h L O d v):Vw p h' L O d v:=by
 rcases w with r|⟨n,xs,ds,e1,e2,ho,hn,g,r⟩
 ·exact .inl (r.mv (k.mv hp))
 ·exact .inr ⟨n,xs,ds,e1,e2,ho,hn,(k.keep n (aX g) (by omega)).trans g,r.mv (k.mv hp)⟩
inductive PR (α:Type) where
 | ok (a:α) (s:Pen)
 | exc (c:Str) (s:Pen)
 | bad
def PR.bind{α β:Type}(r:PR α)(f:α->Pen->PR β):PR β:=match r with
 | .ok a s=>f a s
 | .exc c s=>.exc c s
 | .bad=>.bad
@[simp] theorem PR.bind_ok(a:α)(s:Pen)(f:α->Pen->PR β):(PR.ok a s).bind f=f a s:=rfl
@[simp] theorem PR.bind_exc(c:Str)(s:Pen)(f:α->Pen->PR β):(PR.exc c s).bind f=.exc c s:=rfl
@[simp] theorem PR.bind_bad(f:α->Pen->PR β):(PR.bad:PR α).bind f=.bad:=rfl
def PR.of{α:Type}(o:Option α)(s:Pen):PR α:=match o with
 | some a=>.ok a s
 | none=>.bad
@[simp] theorem PR.of_some(a:α)(s:Pen):PR.of (some a) s=.ok a s:=rfl
@[simp] theorem PR.of_none(s:Pen):PR.of (none:Option α) s=.bad:=rfl
inductive OkE {α β:Type} (p:Nat) (h:MH) (o:Out β) (a:α) (s:Pen) (R:MH->α->β->Prop):Prop
 | mk (b:β) (h':MH) (e:o=.ok b h') (k:KB p h h') (n:bG h' p s) (r:R h' a b):OkE p h o a s R
inductive OkX {β:Type} (p:Nat) (h:MH) (o:Out β) (c:Str) (s:Pen):Prop
 | mk (h':MH) (e:o=.exc ⟨c,[]⟩ h') (k:KB p h h') (n:bG h' p s):OkX p h o c s
def Ok{α β:Type}(p:Nat)(h:MH)(o:Out β)(r:PR α)(R:MH->α->β->Prop):Prop:=match r with
 | .ok a s=>OkE p h o a s R
 | .exc c s=>OkX p h o c s
 | .bad=>True
theorem Ok.bind{α β γ δ:Type}{p:Nat}{h:MH}{o:Out β}{r:PR α}{R:MH->α->β->Prop}{f:β->MH->Out δ}{g:α->Pen->PR γ}{S:MH->γ->δ->Prop}(q:Ok p h o r R)
  (k:∀a b h1 s,KB p h h1->bG h1 p s->R h1 a b->Ok p h1 (f b h1) (g a s) S):Ok p h (o.bind f) (r.bind g) S:=by
 cases r with
 | ok a s =>
  obtain⟨b,h1,rfl,kb,pn,rr⟩:=q
  have:=k a b h1 s kb pn rr
  rw[Out.bind_ok,PR.bind_ok]
  cases e:g a s with
  | ok c s2 =>
   rw[e] at this;obtain⟨d,h2,e2,kb2,pn2,r2⟩:=this;exact⟨d,h2,e2,kb.trans kb2,pn2,r2⟩
  | exc c s2 =>
   rw[e] at this;obtain⟨h2,e2,kb2,pn2⟩:=this;exact⟨h2,e2,kb.trans kb2,pn2⟩
  | bad=>trivial
 | exc c s =>
  obtain⟨h1,rfl,kb,pn⟩:=q;exact⟨h1,rfl,kb,pn⟩
 | bad=>trivial
theorem Ok.imp{α β:Type}{p:Nat}{h:MH}{o:Out β}{r:PR α}{R S:MH->α->β->Prop}(q:Ok p h o r R)(k:∀h' a b,KB p h h'->R h' a b->S h' a b):Ok p h o r S:=by
 cases r with
 | ok a s=>obtain⟨b,h1,e,kb,pn,rr⟩:=q;exact⟨b,h1,e,kb,pn,k _ _ _ kb rr⟩
 | exc c s=>exact q
 | bad=>trivial
structure SR (p:Nat) (h:MH) (L:Nat) (O:List Nat) (ws:List Nat) (σ:PSt) (env:aq):Prop where
 len:σ.length=env.length
 fz:∀i d,env[i]?=some (some d)->i∉ws->∃v,σ[i]?=some (some v)/\Rp p h O d v
 ow:∀i d,env[i]?=some (some d)->i∈ws->∃n xs ds,d=.lst ds/\σ[i]?=some (some (.loc n))/\n∈O/\L<=n/\h[n]?=some (.lst xs)/\Rps p h O ds xs
structure Cx (p:Nat) (h:MH) (L:Nat) (B O:List Nat) (ws:List Nat) (σ:PSt) (env:aq) (s:Pen):Prop where
 bd:∀o∈O,o<h.length
 sub:∀o∈B,o∈O
 bb:∀o∈B,o<L
 pb:p∈B
 hL:L<=h.length
 pen:bG h p s
 sr:SR p h L O ws σ env
section
variable {p L:Nat} {h h':MH} {B O ws:List Nat} {σ:PSt} {env:aq} {s s':Pen}
theorem Cx.pO(c:Cx p h L B O ws σ env s):p∈O:=c.sub p c.pb
theorem Cx.pL(c:Cx p h L B O ws σ env s):p<L:=c.bb p c.pb
theorem SR.mv{O':List Nat}(m:Mv O h O' h')(hs:∀o∈O,o∈O')(ho:∀n:Nat,n<h.length->L<=n->n∈O->h'[n]?=h[n]?)(r:SR p h L O ws σ env):SR p h' L O' ws σ env :=
 ⟨r.len,fun i d e hi=>let ⟨v,e1,q⟩:=r.fz i d e hi;⟨v,e1,q.mv m⟩,fun i d e hi=>let ⟨n,xs,ds,e1,e2,a,b,g,q⟩:=r.ow i d e hi;⟨n,xs,ds,e1,e2,hs n a,b,(ho n (aX g) b a).trans g,q.mv m⟩⟩
theorem Cx.kb(c:Cx p h L B O ws σ env s)(k:KB p h h')(pn:bG h' p s'):Cx p h' L B O ws σ env s' :=
 ⟨fun o ho=>qat (c.bd o ho) k.len,c.sub,c.bb,c.pb,qaA c.hL k.len,pn,c.sr.mv (k.mv c.pO) (fun _ h=>h) fun n hn hl _=>k.keep n hn (by have:=c.pL;omega)⟩
theorem Vw.base(w:Vw p h L O d v)(sub:∀o∈B,o∈O)(bb:∀o∈B,o<L):Rp p h B d v:=by
 have m:Mv O h B h:=⟨fun _ _ _=>rfl,fun o ho=>.inl (sub o ho)⟩;rcases w with r|⟨n,xs,ds,rfl,rfl,_,hn,g,r⟩
 ·exact r.mv m
 ·exact⟨n,xs,rfl,fun z=>by have:=bb n z;omega,g,r.mv m⟩
theorem Frs.rp(f:Frs p L' O h d v)(bd:∀o∈O,o<L')(e:d=.lst ds):Rp p h O d v:=by
 obtain⟨n,xs,e1,hn,g,r⟩:=f ds e;subst e;exact⟨n,xs,e1,fun z=>by have:=bd n z;omega,g,r.mv ⟨fun _ _ _=>rfl,fun o ho=>.inl (qak _ ho)⟩⟩
theorem Frs.le(f:Frs p L2 O h d v)(hl:L1<=L2):Frs p L1 O h d v:=fun ds e =>
 let ⟨n,xs,e1,hn,g,r⟩:=f ds e;⟨n,xs,e1,qaA hl hn,g,r⟩
end
abbrev Bd(h:MH)(O:List Nat):Prop:=∀o∈O,o<h.length
inductive Gv (p:Nat) (h:MH) (O:List Nat) (fr:Bool) (o:Out PV) (d:D):Prop
 | mk (v:PV) (g:MH) (e:o=.ok v (h++g)) (r:Rp p (h++g) O d v) (f:fr=true->Frs p h.length O (h++g) d v):Gv p h O fr o d
structure Op1 where
 m:PV->MH->Out PV
 p:D->Option D
 fr:Bool
 ok:∀{q h L O a x d},Bd h O->Vw q h L O a x->p a=some d->Gv q h O fr (m x h) d
structure Op2 where
 m:PV->PV->MH->Out PV
 p:D->D->Option D
 fr:Bool
 ok:∀{q h L O a x b y d},Bd h O->Vw q h L O a x->Vw q h L O b y->p a b=some d->Gv q h O fr (m x y h) d
structure OpN where
 k:List PV->MH->Out PV
 p:List D->Option D
 fr:Bool
 ok:∀{q h L O as xs d},Bd h O->Vws q h L O as xs->p as=some d->Gv q h O fr (k xs h) d
structure Fn where
 m:List PV->MH->Out PV
 p:List D->Pen->PR D
 fr:Bool
 ok:∀{q h O vs ds s},Bd h O->q∈O->bG h q s->Rps q h O ds vs->Ok q h (m vs h) (p ds s) (fun h' d v=>Rp q h' O d v/\(fr=true->Frs q h.length O h' d v))
section
variable {p:Nat} {h h':MH} {O O':List Nat}
end
structure Xe (ws:List Nat) where
 m:Mx PV
 p:aq->Pen->PR D
 fz:Bool
 fr:Bool
 ok:∀{q h L B O σ env s},Cx q h L B O ws σ env s->Ok q h (m σ h) (p env s) (fun h' d v=>Vw q h' L O d v/\(fz=true->Rp q h' O d v)/\(fr=true->Frs q h.length O h' d v))
structure Xs (ws:List Nat) where
 m:Mx (List PV)
 p:aq->Pen->PR (List D)
 fz:Bool
 ok:∀{q h L B O σ env s},Cx q h L B O ws σ env s->Ok q h (m σ h) (p env s) (fun h' ds vs=>Vws q h' L O ds vs/\(fz=true->Rps q h' O ds vs))
structure Xt (ws:List Nat) where
 m:Mx Bool
 p:aq->Pen->PR Bool
 ok:∀{q h L B O σ env s},Cx q h L B O ws σ env s->Ok q h (m σ h) (p env s) (fun _ a b=>a=b)
noncomputable section
variable {ws:List Nat}
theorem give{q L:Nat}{h h2:MH}{O:List Nat}{o:Out PV}{d:D}{s:Pen}{fr:Bool}(le:h.length<=h2.length)(pn:bG h2 q s)(g:Gv q h2 O fr o d) :
  Ok q h2 o (.ok d s) (fun h' d v=>Vw q h' L O d v/\(true=true->Rp q h' O d v)/\(fr=true->Frs q h.length O h' d v)):=by
 obtain⟨v,g,e,r,f⟩:=g;exact⟨v,h2++g,e,KB.app _ _ _,pn.app,.inl r,fun _=>r,fun z=>(f z).le le⟩
def ac(i:Nat):Xe ws where
 m:=af i
 p:=fun env s=>match env[i]? with
  | some (some d)=>.ok d s
  | _=>.bad
 fz:=!ws.contains i
 fr:=false
 ok {q h L B O σ env s} c:=by
  show Ok q h _ (match env[i]? with | some (some d)=>PR.ok d s | _=>.bad) _
  cases e:env[i]? with
  | none=>trivial
  | some o =>
   cases o with
   | none=>trivial
   | some d =>
    by_cases z:i∈ws
    ·obtain⟨n,xs,ds,e1,e2,a,b,g,r⟩:=c.sr.ow i d e z;exact⟨.loc n,h,by simp[af,e2],KB.refl _ _,c.pen,.inr ⟨n,xs,ds,e1,rfl,a,b,g,r⟩,fun f=>by simp[z] at f,fun f=>by simp at f⟩
    ·obtain⟨v,e1,r⟩:=c.sr.fz i d e z;exact⟨v,h,by simp[af,e1],KB.refl _ _,c.pen,.inl r,fun _=>r,fun f=>by simp at f⟩
inductive Cn where
 | non | bl (b:Bool) | int (i:Int) | str (x:Str)
def Cn.v:Cn->PV
 | .non=>.non
 | .bl b=>.bl b
 | .int i=>.int i
 | .str x=>.str x
def Cn.d:Cn->D
 | .non=>.non
 | .bl b=>.bl b
 | .int i=>.int i
 | .str x=>.str x
theorem Cn.rp(c:Cn){q:Nat}{h:MH}{O:List Nat}:Rp q h O c.d c.v:=by cases c <;> rfl
def xC(k:Cn):Xe ws where
 m:=mC k.v
 p:=fun _ s=>.ok k.d s
 fz:=true
 fr:=true
 ok {q h L B O σ env s} c:=⟨k.v,h,rfl,KB.refl _ _,c.pen,.inl k.rp,fun _=>k.rp,fun _ ds e=>by cases k <;> cases e⟩
def ak(o:Op2)(a b:Xe ws):Xe ws where
 m:=ai o.m a.m b.m
 p:=fun env s=>(a.p env s).bind fun x s1=>(b.p env s1).bind fun y s2=>.of (o.p x y) s2
 fz:=true
 fr:=o.fr
 ok {q h L B O σ env s} c:=by
  refine (a.ok c).bind fun x v h1 s1 k1 p1 ⟨w1,_,_⟩=>?_;refine (b.ok (c.kb k1 p1)).bind fun y w h2 s2 k2 p2 ⟨w2,_,_⟩=>?_
  cases e:o.p x y with
  | none=>trivial
  | some d =>
   have c2:=(c.kb k1 p1).kb k2 p2;obtain⟨u,g,e1,r,f⟩:=o.ok c2.bd (w1.kb k2 c.pO c.pL) w2 e;exact give (qaA k1.len k2.len) p2 ⟨u,g,by rw[e1];rfl,r,f⟩
def xUn(o:Op1)(a:Xe ws):Xe ws where
 m:=mUn o.m a.m
 p:=fun env s=>(a.p env s).bind fun x s1=>.of (o.p x) s1
 fz:=true
 fr:=o.fr
 ok {q h L B O σ env s} c:=by
  refine (a.ok c).bind fun x v h1 s1 k1 p1 ⟨w1,_,_⟩=>?_
  cases e:o.p x with
  | none=>trivial
  | some d =>
   obtain⟨u,g,e1,r,f⟩:=o.ok (c.kb k1 p1).bd w1 e;exact give k1.len p1 ⟨u,g,by rw[e1];rfl,r,f⟩
def xNil:Xs ws where
 m:=mNil
 p:=fun _ s=>.ok [] s
 fz:=true
 ok {q h L B O σ env s} c:=⟨[],h,rfl,KB.refl _ _,c.pen,rfl,fun _=>rfl⟩
def ag(a:Xe ws)(r:Xs ws):Xs ws where
 m:=ae a.m r.m
 p:=fun env s=>(a.p env s).bind fun x s1=>(r.p env s1).bind fun y s2=>.ok (x::y) s2
 fz:=a.fz && r.fz
 ok {q h L B O σ env s} c:=by
  refine (a.ok c).bind fun x v h1 s1 k1 p1 ⟨w1,z1,_⟩=>?_;refine (r.ok (c.kb k1 p1)).bind fun y w h2 s2 k2 p2 ⟨w2,z2⟩=>?_;refine⟨v::w,h2,rfl,KB.refl _ _,p2,⟨v,w,rfl,w1.kb k2 c.pO c.pL,w2⟩,fun f=>?_⟩;rw[qbC] at f;exact⟨v,w,rfl,(z1 f.1).mv (k2.mv c.pO),z2 f.2⟩
def xCb(o:OpN)(a:Xs ws):Xe ws where
 m:=fun σ h=>(a.m σ h).bind o.k
 p:=fun env s=>(a.p env s).bind fun x s1=>.of (o.p x) s1
 fz:=true
 fr:=o.fr
 ok {q h L B O σ env s} c:=by
  refine (a.ok c).bind fun x v h1 s1 k1 p1 ⟨w1,_⟩=>?_
  cases e:o.p x with
  | none=>trivial
  | some d=>exact give k1.len p1 (o.ok (c.kb k1 p1).bd w1 e)
def aP(f:Fn)(a:Xs ws)(hz:a.fz=true:=by exact ys rfl):Xe ws where
 m:=aR f.m a.m
 p:=fun env s=>(a.p env s).bind f.p
 fz:=true
 fr:=f.fr
 ok {q h L B O σ env s} c:=by
  refine (a.ok c).bind fun x v h1 s1 k1 p1 ⟨_,z⟩=>?_;have c1:=c.kb k1 p1;refine (f.ok c1.bd c1.pO p1 (z hz)).imp fun h' d v kb ⟨r,fr⟩=>⟨.inl r,fun _=>r,fun z=>(fr z).le k1.len⟩
theorem cL:100000<=sizeLine:=by decide
theorem kE(bd:Bd h O)(r:Rps q h O ds xs)(hl:ds.length<=100000):Gv q h O true (newL xs h) (.lst ds):=by
 have hx:=r.length;have m:Mv O h O (h++[MO.lst xs]):=⟨fun n hn _=>qaj hn,fun o ho=>.inl ho⟩
 have m2:Mv O h (h.length::O) (h++[MO.lst xs]):=⟨fun n hn _=>qaj hn,fun o ho=>by
  rcases qan.mp ho with z|z
  ·exact .inr (by omega)
  ·exact .inl z⟩
 have g:(h++[MO.lst xs])[h.length]?=some (.lst xs):=by simp
 refine⟨.loc h.length,[.lst xs],?_,⟨_,_,rfl,fun z=>by have:=bd _ z;omega,g,r.mv m⟩,fun _ ds' e=>?_⟩
 ·unfold newL;rw[qaf];have:=cL;omega
 ·cases e;exact⟨_,_,rfl,qag _,g,r.mv m2⟩
theorem o9(r:Rps q h O ds xs)(hl:ds.length<=100000):Gv q h O true (newT xs h) (.tup ds):=by
 have hx:=r.length;refine⟨.tup xs,[],?_,?_,fun _ ds' e=>by cases e⟩
 ·unfold newT;rw[qaf (by have:=cL;omega)];simp
 ·simpa using ⟨xs,rfl,r⟩
def bg(a:Xs ws)(hz:a.fz=true:=by exact ys rfl):Xe ws where
 m:=aZ a.m
 p:=fun env s=>(a.p env s).bind fun x s1=>if x.length<=100000 then .ok (.lst x) s1 else .bad
 fz:=true
 fr:=true
 ok {q h L B O σ env s} c:=by
  refine (a.ok c).bind fun x v h1 s1 k1 p1 ⟨_,z⟩=>?_;by_cases hl:x.length<=100000
  ·rw[qaf hl];exact give k1.len p1 (kE (c.kb k1 p1).bd (z hz) hl)
  ·rw[qai hl];trivial
def fR(a:Xs ws)(hz:a.fz=true:=by exact ys rfl):Xe ws where
 m:=dY a.m
 p:=fun env s=>(a.p env s).bind fun x s1=>if x.length<=100000 then .ok (.tup x) s1 else .bad
 fz:=true
 fr:=true
 ok {q h L B O σ env s} c:=by
  refine (a.ok c).bind fun x v h1 s1 k1 p1 ⟨_,z⟩=>?_;by_cases hl:x.length<=100000
  ·rw[qaf hl];exact give k1.len p1 (o9 (z hz) hl)
  ·rw[qai hl];trivial
def xDic:Xe ws where
 m:=mDic
 p:=fun _ s=>.ok .dic s
 fz:=true
 fr:=true
 ok {q h L B O σ env s} c:=by
  have r:Rp q (h++[MO.dic []]) O .dic (.loc h.length):=⟨_,rfl,fun z=>by have:=c.bd _ z;omega,by simp⟩;exact⟨.loc h.length,h++[.dic []],rfl,KB.app _ _ _,c.pen.app,.inl r,fun _=>r,fun _ ds e=>by cases e⟩
theorem Vw.bl(w:Vw q h L O (.bl b) v):v=.bl b:=by
 rcases w with r|⟨n,xs,ds,e,_⟩
 ·exact r
 ·cases e
def PR.bl(r:PR D):PR Bool:=r.bind fun d s=>match d with
 | .bl b=>.ok b s
 | _=>.bad
@[simp] theorem PR.bl_ok:(PR.ok (D.bl b) s).bl=.ok b s:=rfl
def xB(a:Xe ws):Xt ws where
 m:=mB a.m
 p:=fun env s=>(a.p env s).bl
 ok {q h L B O σ env s} c:=by
  refine (a.ok c).bind fun x v h1 s1 k1 p1 ⟨w,_,_⟩=>?_
  cases x with
  | bl b=>rw[w.bl];exact⟨b,h1,rfl,KB.refl _ _,p1,rfl⟩
  | _=>trivial
def jb(a:Xt ws):Xt ws where
 m:=fh a.m
 p:=fun env s=>(a.p env s).bind fun b s=>.ok (!b) s
 ok {q h L B O σ env s} c:=(a.ok c).bind fun x v h1 s1 k1 p1 e=>⟨!v,h1,rfl,KB.refl _ _,p1,by rw[e]⟩
def lY(a b:Xt ws):Xt ws where
 m:=mQ a.m b.m
 p:=fun env s=>(a.p env s).bind fun x s=>if x=true then b.p env s else .ok false s
 ok {q h L B O σ env s} c:=(a.ok c).bind fun x v h1 s1 k1 p1 e=>by
  subst e
  cases x with
  | true=>simpa using b.ok (c.kb k1 p1)
  | false=>exact⟨false,h1,rfl,KB.refl _ _,p1,rfl⟩
def xOr(a b:Xt ws):Xt ws where
 m:=mOr a.m b.m
 p:=fun env s=>(a.p env s).bind fun x s=>if x=true then .ok true s else b.p env s
 ok {q h L B O σ env s} c:=(a.ok c).bind fun x v h1 s1 k1 p1 e=>by
  subst e
  cases x with
  | false=>simpa using b.ok (c.kb k1 p1)
  | true=>exact⟨true,h1,rfl,KB.refl _ _,p1,rfl⟩
def xTrue:Xt ws where
 m:=mTrue
 p:=fun _ s=>.ok true s
 ok {q h L B O σ env s} c:=⟨true,h,rfl,KB.refl _ _,c.pen,rfl⟩
theorem Ok.after{α β:Type}{p:Nat}{h h1:MH}{o:Out β}{r:PR α}{R:MH->α->β->Prop}(k:KB p h h1)(q:Ok p h1 o r R):Ok p h o r R:=by
 cases r with
 | bad=>trivial
 | exc c2 s2=>obtain⟨h2,a1,a2,a3⟩:=q;exact⟨h2,a1,k.trans a2,a3⟩
 | ok d2 s2=>obtain⟨v2,h2,a1,a2,a3,a4⟩:=q;exact⟨v2,h2,a1,k.trans a2,a3,a4⟩
theorem giveB(pn:bG h q s):Ok q h (.ok (.bl b) h) (.ok (.bl b) s) (fun h' d v=>Vw q h' L O d v/\(true=true->Rp q h' O d v)/\(true=true->Frs q l O h' d v)) :=
 ⟨.bl b,h,rfl,KB.refl _ _,pn,.inl rfl,fun _=>rfl,fun _ ds e=>by cases e⟩
theorem blOnly(k:Ok q h o r (fun h' d v=>Vw q h' L O d v/\(fz=true->Rp q h' O d v)/\(fr=true->Frs q l' O h' d v))) :
  Ok q h o (r.bl.bind fun b s=>.ok (.bl b) s) (fun h' d v=>Vw q h' L O d v/\(true=true->Rp q h' O d v)/\(true=true->Frs q l O h' d v)):=by
 cases r with
 | bad=>trivial
 | exc c s=>exact k
 | ok d s =>
  obtain⟨v,h',e,kb,pn,w,_,_⟩:=k
  cases d with
  | bl b=>exact⟨v,h',e,kb,pn,w,fun _=>by rw[w.bl];rfl,fun _ ds e=>by cases e⟩
  | _=>trivial
def qu(a b:Xe ws):Xe ws where
 m:=jD a.m b.m
 p:=fun env s=>(a.p env s).bl.bind fun x s=>if x=true then (b.p env s).bl.bind fun y s=>.ok (.bl y) s else .ok (.bl false) s
 fz:=true
 fr:=true
 ok {q h L B O σ env s} c:=by
  have k:=a.ok c;show Ok q h ((a.m σ h).bind _) _ _
  cases e:a.p env s with
  | bad=>trivial
  | exc x s1 =>
   rw[e] at k;obtain⟨h1,e1,k1,p1⟩:=k;rw[e1];exact⟨h1,rfl,k1,p1⟩
  | ok d s1 =>
   rw[e] at k;obtain⟨v,h1,e1,k1,p1,w,_,_⟩:=k
   cases d with
   | bl x =>
    rw[w.bl] at e1;rw[e1]
    cases x with
    | true =>
     exact Ok.after k1 (blOnly (l:=h.length) (b.ok (c.kb k1 p1)))
    | false =>
     obtain⟨v2,h2,a1,a2,a3,a4⟩:=giveB (L:=L) (l:=h.length) (O:=O) (b:=false) p1;exact⟨v2,h2,a1,k1.trans a2,a3,a4⟩
   | _=>trivial
def xNotV(a:Xe ws):Xe ws where
 m:=lQ a.m
 p:=fun env s=>(a.p env s).bl.bind fun x s=>.ok (.bl (!x)) s
 fz:=true
 fr:=true
 ok {q h L B O σ env s} c:=by
  have k:=a.ok c;show Ok q h ((a.m σ h).bind _) _ _
  cases e:a.p env s with
  | bad=>trivial
  | exc x s1 =>
   rw[e] at k;obtain⟨h1,e1,k1,p1⟩:=k;rw[e1];exact⟨h1,rfl,k1,p1⟩
  | ok d s1 =>
   rw[e] at k;obtain⟨v,h1,e1,k1,p1,w,_,_⟩:=k
   cases d with
   | bl x =>
    rw[w.bl] at e1;rw[e1];obtain⟨v2,h2,a1,a2,a3,a4⟩:=giveB (L:=L) (l:=h.length) (O:=O) (b:=!x) p1;exact⟨v2,h2,a1,k1.trans a2,a3,a4⟩
   | _=>trivial
def sA(f g:Op2)(a b e:Xe ws):Xe ws where
 m:=gL f.m g.m a.m b.m e.m
 p:=fun env s=>(a.p env s).bind fun x s1=>(b.p env s1).bind fun y s2=>match f.p x y with
  | some (.bl t)=>if t=true then (e.p env s2).bind fun z s3=>.of (g.p y z) s3 else .ok (.bl false) s2
  | _=>.bad
 fz:=true
 fr:=false
 ok {q h L B O σ env s} c:=by
  refine (a.ok c).bind fun x v h1 s1 k1 p1 ⟨w1,_,_⟩=>?_;refine (b.ok (c.kb k1 p1)).bind fun y w h2 s2 k2 p2 ⟨w2,_,_⟩=>?_;have c2:=(c.kb k1 p1).kb k2 p2
  cases e1:f.p x y with
  | none=>trivial
  | some d =>
   cases d with
   | bl t =>
    obtain⟨u,gg,e2,r,_⟩:=f.ok c2.bd (w1.kb k2 c.pO c.pL) w2 e1;have hu:u=.bl t:=r;subst hu;rw[e2];have k3:=KB.app q h2 gg;have c3:=c2.kb k3 p2.app
    cases t with
    | true =>
     refine Ok.after k3 ?_;show Ok q (h2++gg) ((e.m σ (h2++gg)).bind _) _ _;refine (e.ok c3).bind fun z u h3 s3 k4 p4 ⟨w3,_,_⟩=>?_
     cases e4:g.p y z with
     | none=>trivial
     | some d =>
      obtain⟨u2,g2,e5,r2,_⟩:=g.ok (c3.kb k4 p4).bd ((w2.kb k3 c.pO c.pL).kb k4 c.pO c.pL) w3 e4;refine⟨u2,h3++g2,by rw[e5];rfl,KB.app _ _ _,p4.app,.inl r2,fun _=>r2,fun f=>by simp at f⟩
    | false=>exact⟨.bl false,h2++gg,rfl,k3,p2.app,.inl rfl,fun _=>rfl,fun f=>by simp at f⟩
   | _=>trivial
end
structure Xi (ws:List Nat) where
 m:Mx MIt
 p:aq->Pen->PR (List D)
 fz:Bool
 ok:∀{q h L B O σ env s},Cx q h L B O ws σ env s->Ok q h (m σ h) (p env s) (fun h' ds it=>Rps q h' O ds it.xs/\(∀g∈it.gd,h'[g.1]?=some (.lst g.2)/\g.1≠q)/\(fz=true->∀g∈it.gd,g.1∉O))
inductive GI (q:Nat) (h:MH) (O:List Nat) (ds as:List D) (xs:List PV) (o:Out MIt):Prop
 | mk (it:MIt) (e:o=.ok it h) (r:Rps q h O ds it.xs) (g:∀g∈it.gd,h[g.1]?=some (.lst g.2)/\g.1≠q) (z:Rps q h O as xs->∀g∈it.gd,g.1∉O):GI q h O ds as xs o
structure OpI where
 k:List PV->MH->Out MIt
 p:List D->Option (List D)
 ok:∀{q h L O as xs ds},q<L->q∈O->Bd h O->Vws q h L O as xs->p as=some ds->GI q h O ds as xs (k xs h)
def D.items:D->Option (List D)
 | .lst ds=>some ds
 | .tup ds=>some ds
 | _=>none
@[simp] theorem items_lst:(D.lst ds).items=some ds:=rfl
@[simp] theorem items_tup:(D.tup ds).items=some ds:=rfl
noncomputable section
variable {ws:List Nat}
def kH(o:OpI)(a:Xs ws):Xi ws where
 m:=fun σ h=>(a.m σ h).bind o.k
 p:=fun env s=>(a.p env s).bind fun x s1=>.of (o.p x) s1
 fz:=a.fz
 ok {q h L B O σ env s} c:=by
  refine (a.ok c).bind fun x v h1 s1 k1 p1 ⟨w,z⟩=>?_
  cases e:o.p x with
  | none=>trivial
  | some ds =>
   obtain⟨it,e1,r,g1,g2⟩:=o.ok c.pL c.pO (c.kb k1 p1).bd w e;exact⟨it,h1,e1,KB.refl _ _,p1,r,g1,fun f=>g2 (z f)⟩
theorem Vw.seq(hq:q<L)(hO:q∈O)(w:Vw q h L O d v)(e:d.items=some ds):∃xs gd,itAny v h=.ok ⟨xs,gd⟩ h/\Rps q h O ds xs/\(∀g∈gd,h[g.1]?=some (.lst g.2)/\g.1≠q)/\(Rp q h O d v->∀g∈gd,g.1∉O):=by
 have one:∀n xs,h[n]?=some (MO.lst xs)->n≠q->(∀g∈[(n,xs)],h[g.1]?=some (MO.lst g.2)/\g.1≠q):=fun n xs g hn y hy=>by
  have:y=(n,xs):=by simpa using hy
  subst this;exact⟨g,hn⟩
 cases d with
 | lst es =>
  have:es=ds:=by simpa [D.items] using e
  subst this;rcases w with ⟨n,xs,e1,no,g,r⟩|⟨n,xs,es',e0,e1,_,hn,g,r⟩
  ·subst e1;refine⟨xs,[(n,xs)],by simp only[itAny,g],r,one n xs g (fun z=>no (z▸hO)),fun _ y hy=>?_⟩
   have:y=(n,xs):=by simpa using hy
   subst this;exact no
  ·cases e0;subst e1;refine⟨xs,[(n,xs)],by simp only[itAny,g],r,one n xs g (by omega),fun ⟨n',xs',e1,no,_,_⟩ y hy=>?_⟩
   have:y=(n,xs):=by simpa using hy
   subst this;cases e1;exact no
 | tup es =>
  have:es=ds:=by simpa [D.items] using e
  subst this;rcases w with ⟨xs,e1,r⟩|⟨n,xs,es',e0,_⟩
  ·subst e1;exact⟨xs,[],rfl,r,(fun _ hy=>nomatch hy),fun _ _ hy=>nomatch hy⟩
  ·cases e0
 | _=>simp[D.items] at e
def bW(a:Xe ws):Xi ws where
 m:=db a.m
 p:=fun env s=>(a.p env s).bind fun x s1=>.of x.items s1
 fz:=a.fz
 ok {q h L B O σ env s} c:=by
  refine (a.ok c).bind fun x v h1 s1 k1 p1 ⟨w,z,_⟩=>?_
  cases e:x.items with
  | none=>trivial
  | some ds =>
   obtain⟨xs,gd,e1,r,g1,g2⟩:=w.seq c.pL c.pO e;exact⟨⟨xs,gd⟩,h1,e1,KB.refl _ _,p1,r,g1,fun f=>g2 (z f)⟩
structure Xg (ws:List Nat) where
 m:Mg
 p:D->aq->Option aq
 ok:∀{q h L O σ env d v env'},SR q h L O ws σ env->Rp q h O d v->p d env=some env'->∃σ',m v σ h=.nx σ' h/\SR q h L O ws σ' env'/\∀i∈ws,σ'[i]?=σ[i]?/\env'[i]?=env[i]?
structure Xgs (ws:List Nat) where
 m:Mgs
 p:List D->aq->Option aq
 ok:∀{q h L O σ env ds vs env'},SR q h L O ws σ env->Rps q h O ds vs->p ds env=some env'->∃σ',m vs σ h=.nx σ' h/\SR q h L O ws σ' env'/\∀i∈ws,σ'[i]?=σ[i]?/\env'[i]?=env[i]?
theorem SR.set(r:SR q h L O ws σ env)(hi:i∉ws)(w:Rp q h O d v):SR q h L O ws (σ.set i (some v)) (env.set i (some d))/\∀j∈ws,(σ.set i (some v))[j]?=σ[j]?/\(env.set i (some d))[j]?=env[j]?:=by
 have ne:∀j∈ws,i≠j:=fun j hj z=>hi (z▸hj);refine⟨⟨by simp[r.len],fun j e hj hw=>?_,fun j e hj hw=>?_⟩,fun j hj=>⟨qad (ne j hj),qad (ne j hj)⟩⟩
 ·by_cases z:i=j
  ·subst z;have hl:i<env.length:=by
    have:=(qab.mp hj).1;simpa using this
   rw[qas hl] at hj;cases hj;exact⟨v,qas (by rw[r.len];exact hl),w⟩
  ·rw[qad z] at hj;obtain⟨u,e1,q1⟩:=r.fz j e hj hw;exact⟨u,by rw[qad z];exact e1,q1⟩
 ·rw[qad (ne j hw)] at hj;obtain⟨n,xs,ds,e1,e2,rest⟩:=r.ow j e hj hw;exact⟨n,xs,ds,e1,by rw[qad (ne j hw)];exact e2,rest⟩
def xNm(i:Nat)(hi:ws.contains i=false:=by exact ys rfl):Xg ws where
 m:=gNm i
 p:=fun d env=>some (env.set i (some d))
 ok {q h L O σ env d v env'} r w e:=by
  cases e;have hi':i∉ws:=fun z=>by simp[z] at hi
  obtain⟨a,b⟩:=r.set hi' w;exact⟨_,rfl,a,b⟩
def xGl:Xgs ws where
 m:=gNl
 p:=fun ds env=>match ds with
  | []=>some env
  | _=>none
 ok {q h L O σ env ds vs env'} r w e:=by
  cases ds with
  | nil =>
   cases e
   have:vs=[]:=w
   subst this;exact⟨σ,rfl,r,fun _ _=>⟨rfl,rfl⟩⟩
  | cons _ _=>cases e
def xGc(a:Xg ws)(t:Xgs ws):Xgs ws where
 m:=gCn a.m t.m
 p:=fun ds env=>match ds with
  | d::ds=>(a.p d env).bind fun env1=>t.p ds env1
  | []=>none
 ok {q h L O σ env ds vs env'} r w e:=by
  cases ds with
  | nil=>cases e
  | cons d ds =>
   obtain⟨x,y,rfl,r1,r2⟩:=w;dsimp only at e
   cases e1:a.p d env with
   | none=>rw[e1] at e;cases e
   | some env1 =>
    rw[e1] at e;obtain⟨σ1,f1,s1,k1⟩:=a.ok r r1 e1;obtain⟨σ2,f2,s2,k2⟩:=t.ok s1 r2 e;exact⟨σ2,by show (a.m x σ h).then (t.m y)=_;rw[f1];exact f2,s2,fun i hi=>⟨(k2 i hi).1.trans (k1 i hi).1,(k2 i hi).2.trans (k1 i hi).2⟩⟩
def xGp(t:Xgs ws)(n:Nat):Xg ws where
 m:=gTp t.m n
 p:=fun d env=>match d with
  | .tup ds=>if ds.length=n then t.p ds env else none
  | _=>none
 ok {q h L O σ env d v env'} r w e:=by
  cases d with
  | tup ds =>
   obtain⟨xs,rfl,w⟩:=w;dsimp only at e;by_cases z:ds.length=n
   ·rw[qaf z] at e;obtain⟨σ',a,b⟩:=t.ok r w e;exact⟨σ',by show (if xs.length=n then t.m xs σ h else .bad)=_;rw[qaf (by rw[w.length];exact z)];exact a,b⟩
   ·rw[qai z] at e;cases e
  | _=>cases e
def cws(nv:Nat)(fm ws:List Nat):List Nat:=((List.range fm.length).filter fun j=>ws.contains (fm.getD j 0)).map (nv+·)
def cenv(nv:Nat)(fm:List Nat)(env:aq):aq:=List.replicate nv none++fm.map fun i=>(env[i]?).getD none
def PR.ne{α:Type}(r:PR α):PR α:=match r with
 | .exc _ _=>.bad
 | r=>r
@[simp] theorem PR.ne_ok(a:α)(s:Pen):(PR.ok a s).ne=.ok a s:=rfl
def dm(g:D->aq->Option aq)(t:aq->Pen->PR Bool)(e:aq->Pen->PR D):List D->aq->Pen->PR (List D)
 | [],_,s=>.ok [] s
 | d::ds,env,s=>match g d env with
  | none=>.bad
  | some env1=>(t env1 s).bind fun b s1=>if b=true then (e env1 s1).bind fun x s2=>(dm g t e ds env1 s2).bind fun r s3=>.ok (x::r) s3 else dm g t e ds env1 s1
theorem cget{nv:Nat}{fm:List Nat}{α:Type}{env:List (Option α)}{i:Nat}{d:α}(e:(List.replicate nv none++fm.map fun i=>(env[i]?).getD none)[i]?=some (some d)):∃j k,i=nv+j/\fm[j]?=some k/\env[k]?=some (some d):=by
 by_cases z:i<nv
 ·rw[qaj (by simpa using z)] at e;simp[z] at e
 ·rw[qau (by simp;omega)] at e;simp only[qbk,qax] at e
  cases ek:fm[i - nv]? with
  | none=>rw[ek] at e;cases e
  | some k =>
   rw[ek] at e;simp only[qbK,Option.some.injEq] at e;refine⟨i - nv,k,by omega,ek,?_⟩
   cases z2:env[k]? with
   | none=>rw[z2] at e;cases e
   | some o=>rw[z2] at e;simp at e;rw[e]
theorem cput{nv:Nat}{fm:List Nat}{α:Type}{σ:List (Option α)}{j k:Nat}{v:α}(e1:fm[j]?=some k)(e2:σ[k]?=some (some v)):(List.replicate nv none++fm.map fun i=>(σ[i]?).getD none)[nv+j]?=some (some v):=by
 rw[qau (by simp)];simp[e1,e2]
theorem px(e:fm[j]?=some k):nv+j∈cws nv fm ws↔k∈ws:=by
 have hj:=(qab.mp e).1;have hk:fm.getD j 0=k:=by simp[List.getD,e]
 unfold cws;rw[qbb];constructor
 ·rintro⟨a,ha,hb⟩
  have:a=j:=by omega
  subst this;rw[qbw] at ha
  have:=ha.2
  rw[hk] at this;simpa using this
 ·intro hw;exact⟨j,qbw.mpr ⟨qbu.mpr hj,by rw[hk];simpa using hw⟩,rfl⟩
theorem SR.comp{q:Nat}{h:MH}{L:Nat}{O:List Nat}{σ:PSt}{env:aq}(nv:Nat)(fm:List Nat)(r:SR q h L O ws σ env):SR q h L O (cws nv fm ws) (cSt nv fm σ) (cenv nv fm env):=by
 refine⟨by simp[cSt,cenv],fun i d e hi=>?_,fun i d e hi=>?_⟩
 ·obtain⟨j,k,rfl,e1,e2⟩:=cget e;obtain⟨v,e3,w⟩:=r.fz k d e2 fun z=>hi ((px e1).mpr z);exact⟨v,cput e1 e3,w⟩
 ·obtain⟨j,k,rfl,e1,e2⟩:=cget e;obtain⟨n,xs,ds,e0,e3,w⟩:=r.ow k d e2 ((px e1).mp hi);exact⟨n,xs,ds,e0,cput e1 e3,w⟩
theorem cGo_ok(gt:Xg ws')(t:Xt ws')(e:Xe ws')(hz:e.fz=true)(hq:q<h1.length)(gd:∀g∈it.gd,h1[g.1]?=some (.lst g.2)/\g.1≠q) :
  ∀(ds:List D) (xs:List PV) (env:aq) (σ:PSt) (h:MH) (accD:List D) (acc:List PV) (s:Pen) (r:List D) (s':Pen),(∀i∈ws',∀d,env[i]?=some (some d)->∀n,σ[i]?=some (some (.loc n))->n<h1.length)->KB q h1 h->Cx q h L B (h1.length::O) ws' σ env s->Rps q h (h1.length::O) ds xs->h[h1.length]?=some (.lst acc)->Rps q h (h1.length::O) accD acc->accD.length+ds.length<=100000 ->
  dm gt.p t.p e.p ds env s=.ok r s'->∃h' zs,cGo it h1.length gt.m t.m e.m xs σ h=.ok () h'/\KB q h1 h'/\bG h' q s'/\h'[h1.length]?=some (.lst zs)/\Rps q h' (h1.length::O) (accD++r) zs:=by
 intro ds
 induction ds with
 | nil =>
  intro xs env σ h accD acc s r s' on kb c rx ga ra hl ep
  have:xs=[]:=rx
  subst this;cases ep;have ok:it.ok h:=fun g hg=>(kb.keep _ (aX (gd g hg).1) (gd g hg).2).trans (gd g hg).1;exact⟨h,acc,by rw[cGo,qaf ok],kb,c.pen,ga,by simpa using ra⟩
 | cons d ds ih =>
  intro xs env σ h accD acc s r s' on kb c rx ga ra hl ep;obtain⟨x,xr,rfl,r1,r2⟩:=rx;have ok:it.ok h:=fun g hg=>(kb.keep _ (aX (gd g hg).1) (gd g hg).2).trans (gd g hg).1;rw[dm] at ep
  cases eg:gt.p d env with
  | none=>rw[eg] at ep;cases ep
  | some env1 =>
   rw[eg] at ep;dsimp only at ep;obtain⟨σ1,f1,sr1,k1⟩:=gt.ok c.sr r1 eg;have on1:∀i∈ws',∀d,env1[i]?=some (some d)->∀n,σ1[i]?=some (some (.loc n))->n<h1.length:=fun i hi d e n z=>on i hi d ((k1 i hi).2▸e) n ((k1 i hi).1▸z);have c1:Cx q h L B (h1.length::O) ws' σ1 env1 s:=⟨c.bd,c.sub,c.bb,c.pb,c.hL,c.pen,sr1⟩;have kt:=t.ok c1
   cases et:t.p env1 s with
   | bad=>rw[et] at ep;cases ep
   | exc _ _=>rw[et] at ep;cases ep
   | ok b s1 =>
    rw[et] at ep kt;obtain⟨b',h2,f2,k2,p2,eb⟩:=kt;subst eb;have c2:=c1.kb k2 p2;have mv2:Mv (h1.length::O) h (h1.length::O) h2:=k2.mv c.pO;have hn:h1.length<h.length:=aX ga;have ga2:h2[h1.length]?=some (.lst acc):=(k2.keep _ hn (by omega)).trans ga;rw[PR.bind_ok] at ep
    cases b with
    | false =>
     rw[qai (by simp)] at ep;obtain⟨h',zs,a1,a2⟩:=ih xr env1 σ1 h2 accD acc s1 r s' on1 (kb.trans k2) c2 (r2.mv mv2) ga2 (ra.mv mv2) (by simp at hl;omega) ep;refine⟨h',zs,?_,a2⟩;rw[cGo,qaf ok,f1];simp only[f2,Out.ne_ok,Out.bind_ok,qam,if_false];exact a1
    | true =>
     rw[qaf rfl] at ep;have ke:=e.ok c2
     cases ee:e.p env1 s1 with
     | bad=>rw[ee] at ep;cases ep
     | exc _ _=>rw[ee] at ep;cases ep
     | ok y s2 =>
      rw[ee] at ep ke;obtain⟨v,h3,f3,k3,p3,_,rv,_⟩:=ke;have rv:=rv hz;have c3:=c2.kb k3 p3;have mv3:Mv (h1.length::O) h2 (h1.length::O) h3:=k3.mv c.pO;have ga3:h3[h1.length]?=some (.lst acc):=(k3.keep _ (aX ga2) (by omega)).trans ga2;have mv4:Mv (h1.length::O) h3 (h1.length::O) (h3.set h1.length (.lst (acc++[v]))) :=
       ⟨fun n hn no=>qad (fun z=>no (by simp[z])),fun o ho=>.inl ho⟩
      have ra3:Rps q h3 (h1.length::O) (accD++[y]) (acc++[v]):=((ra.mv mv2).mv mv3).app ⟨v,[],rfl,rv,rfl⟩;rw[PR.bind_ok] at ep
      cases er:dm gt.p t.p e.p ds env1 s2 with
      | bad=>rw[er] at ep;cases ep
      | exc _ _=>rw[er] at ep;cases ep
      | ok r' s3 =>
       rw[er] at ep;cases ep;have k03:KB q h1 h3:=(kb.trans k2).trans k3;have c4:Cx q (h3.set h1.length (.lst (acc++[v]))) L B (h1.length::O) ws' σ1 env1 s2:=by
        refine⟨fun o ho=>by simpa using c3.bd o ho,c3.sub,c3.bb,c3.pb,by simpa using c3.hL,?_,?_⟩
        ·unfold bG;rw[qad (by omega)];exact p3
        ·refine⟨c3.sr.len,fun i d e hi=>let ⟨v,e1,q1⟩:=c3.sr.fz i d e hi;⟨v,e1,q1.mv mv4⟩,fun i d e hi=>?_⟩;obtain⟨n,ys,es,b1,b2,b3,b4,b5,b6⟩:=c3.sr.ow i d e hi;have z:=on1 i hi d e n b2;exact⟨n,ys,es,b1,b2,b3,b4,by rw[qad (by omega)];exact b5,b6.mv mv4⟩
       obtain⟨h',zs,a1,a2,a3,a4,a5⟩:=ih xr env1 σ1 (h3.set h1.length (.lst (acc++[v]))) (accD++[y]) (acc++[v]) s2 r' _ on1 ⟨by simpa using k03.len,fun n hn hp=>by rw[qad (by omega)];exact k03.keep n hn hp⟩ c4 (((r2.mv mv2).mv mv3).mv mv4) (qas (aX ga3)) (ra3.mv mv4) (by simp at hl ⊢;omega) er;refine⟨h',zs,?_,a2,a3,a4,by simpa using a5⟩;rw[cGo,qaf ok,f1];simp only[f2,Out.ne_ok,Out.bind_ok,if_true,f3,ga3];rw[qaf (by have:=cL;have:=ra.length;simp at hl;omega)];exact a1
def bN(nv:Nat)(fm:List Nat)(i:Xi ws){ws':List Nat}(g:Xg ws')(t:Xt ws')(e:Xe ws')(hw:cws nv fm ws=ws':=by exact ys rfl)(hz:e.fz=true:=by exact ys rfl):Xe ws where
 m:=bO nv fm i.m g.m t.m e.m
 p:=fun env s=>(i.p env s).bind fun ds s1=>if ds.length<=100000 then (match dm g.p t.p e.p ds (cenv nv fm env) s1 with
  | .ok r s2=>.ok (.lst r) s2
  | _=>.bad) else .bad
 fz:=true
 fr:=true
 ok {q h L B O σ env s} c:=by
  subst hw;refine (i.ok c).bind fun ds it h1 s1 k1 p1 ⟨rx,gd,_⟩=>?_;have c1:=c.kb k1 p1;by_cases hl:ds.length<=100000
  ·rw[qaf hl]
   cases er:dm g.p t.p e.p ds (cenv nv fm env) s1 with
   | bad=>trivial
   | exc _ _=>trivial
   | ok r s2 =>
    have mv:Mv O h1 (h1.length::O) (h1++[MO.lst []]):=⟨fun n hn _=>qaj hn,fun o ho=>by
     rcases qan.mp ho with z|z
     ·exact .inr (by omega)
     ·exact .inl z⟩
    have sr:=(c1.sr.comp nv fm).mv mv (fun o ho=>qak _ ho) fun n hn _ _=>qaj hn;have c2:Cx q (h1++[MO.lst []]) L B (h1.length::O) (cws nv fm ws) (cSt nv fm σ) (cenv nv fm env) s1:=by
     refine⟨fun o ho=>?_,fun o ho=>qak _ (c.sub o ho),c.bb,c.pb,by have:=c1.hL;simp;omega,p1.app,sr⟩;rcases qan.mp ho with z|z
     ·subst z;simp
     ·have:=c1.bd o z;simp;omega
    have hq:q<h1.length:=aX p1
    obtain⟨h',zs,a1,a2,a3,a4,a5⟩:=cGo_ok g t e hz (L:=L) (B:=B) (O:=O) hq gd ds it.xs (cenv nv fm env) (cSt nv fm σ) (h1++[MO.lst []]) [] [] s1 r s2 (fun i hi d ed n en=>by
     obtain⟨n',_,_,_,b2,_,_,b5,_⟩:=(c1.sr.comp nv fm).ow i d ed hi;rw[b2] at en;cases en
     exact aX b5) (KB.app _ _ _) c2 (rx.mv mv) (by simp) rfl (by simpa using hl) er
    have f:Frs q h.length O h' (.lst r) (.loc h1.length):=fun ds e=>by
     cases e;exact⟨_,zs,rfl,k1.len,a4,by simpa using a5⟩
    have rr:=f.rp c.bd rfl;exact⟨.loc h1.length,h',by show (cGo _ _ _ _ _ _ _ _).bind _=_;rw[a1];rfl,a2,a3,.inl rr,fun _=>rr,fun _=>f⟩
  ·rw[qai hl];trivial
end
end PU
namespace PU
open PySem MM
noncomputable local instance (priority:=1) cdecN4 (p:Prop):Decidable p:=Classical.propDecidable p
inductive PS where
 | nx (e:aq) (s:Pen)
 | rt (d:D) (s:Pen)
 | bk (e:aq) (s:Pen)
 | ct (e:aq) (s:Pen)
 | exc (c:Str) (e:aq) (s:Pen)
 | rse (c:Str) (e:aq) (s:Pen)
 | bad
structure Stp (q L:Nat) (h:MH) (O:List Nat) (h':MH) (O':List Nat):Prop where
 len:h.length<=h'.length
 mv:Mv O h O' h'
 sub:∀o∈O,o∈O'
 base:∀n:Nat,n<L->n≠q->h'[n]?=h[n]?
theorem Stp.refl(q L:Nat)(h:MH)(O:List Nat):Stp q L h O h O:=⟨qag _,⟨fun _ _ _=>rfl,fun _ h=>.inl h⟩,fun _ h=>h,fun _ _ _=>rfl⟩
theorem Stp.trans(a:Stp q L h O h1 O1)(b:Stp q L h1 O1 h2 O2):Stp q L h O h2 O2:=by
 refine⟨qaA a.len b.len,⟨fun n hn no=>?_,fun o ho=>?_⟩,fun o ho=>b.sub o (a.sub o ho),fun n hn hq=>(b.base n hn hq).trans (a.base n hn hq)⟩
 ·have n1:n∉O1:=fun z=>by
   rcases a.mv.new n z with q|q
   ·exact no q
   ·omega
  exact (b.mv.keep n (qat hn a.len) n1).trans (a.mv.keep n hn no)
 ·rcases b.mv.new o ho with z|z
  ·exact a.mv.new o z
  ·exact .inr (qaA a.len z)
def Dis(ws:List Nat)(σ:PSt)(env:aq):Prop:=∀i j,i∈ws->j∈ws->i≠j->∀d d' n,env[i]?=some (some d)->env[j]?=some (some d')->σ[i]?=some (some (.loc n))->σ[j]?≠some (some (.loc n))
inductive Nxt (q L:Nat) (h:MH) (B O ws:List Nat) (σ':PSt) (h':MH) (env:aq) (s:Pen):Prop
 | mk (O':List Nat) (a:Stp q L h O h' O') (c:Cx q h' L B O' ws σ' env s) (d:Dis ws σ' env):Nxt q L h B O ws σ' h' env s
inductive SNx (q L:Nat) (h:MH) (B O ws:List Nat) (f:PSt->MH->SOut) (o:SOut) (env:aq) (s:Pen):Prop
 | mk (σ':PSt) (h':MH) (e:o=f σ' h') (n:Nxt q L h B O ws σ' h' env s):SNx q L h B O ws f o env s
inductive SRt (q L:Nat) (h:MH) (B:List Nat) (fr:Bool) (o:SOut) (d:D) (s:Pen):Prop
 | mk (v:PV) (h':MH) (e:o=.rt v h') (l:h.length<=h'.length) (b:∀n:Nat,n<L->n≠q->h'[n]?=h[n]?) (p:bG h' q s) (r:Rp q h' B d v) (f:fr=true->Frs q L B h' d v):SRt q L h B fr o d s
def SOk(q L:Nat)(h:MH)(B O ws:List Nat)(fr:Bool)(o:SOut)(r:PS):Prop:=match r with
 | .nx env s=>SNx q L h B O ws .nx o env s
 | .bk env s=>SNx q L h B O ws .bk o env s
 | .ct env s=>SNx q L h B O ws .ct o env s
 | .exc c env s=>SNx q L h B O ws (.exc ⟨c,[]⟩) o env s
 | .rse c env s=>SNx q L h B O ws (.rse ⟨c,[]⟩) o env s
 | .rt d s=>SRt q L h B fr o d s
 | .bad=>True
structure Xd (ws:List Nat) where
 m:Mst
 p:aq->Pen->PS
 fr:Bool
 ok:∀{q h L B O σ env s},Cx q h L B O ws σ env s->Dis ws σ env->SOk q L h B O ws fr (m σ h) (p env s)
theorem Nxt.after(a:Stp q L h O h1 O1)(n:Nxt q L h1 B O1 ws σ' h' env s):Nxt q L h B O ws σ' h' env s :=
 let ⟨O',b,c,d⟩:=n;⟨O',a.trans b,c,d⟩
theorem SOk.after(a:Stp q L h O h1 O1)(k:SOk q L h1 B O1 ws fr o r):SOk q L h B O ws fr o r:=by
 cases r with
 | nx env s=>obtain⟨σ',h',e,n⟩:=k;exact⟨σ',h',e,n.after a⟩
 | bk env s=>obtain⟨σ',h',e,n⟩:=k;exact⟨σ',h',e,n.after a⟩
 | ct env s=>obtain⟨σ',h',e,n⟩:=k;exact⟨σ',h',e,n.after a⟩
 | exc c env s=>obtain⟨σ',h',e,n⟩:=k;exact⟨σ',h',e,n.after a⟩
 | rse c env s=>obtain⟨σ',h',e,n⟩:=k;exact⟨σ',h',e,n.after a⟩
 | rt d s=>obtain⟨v,h',e,l,b,r1,r2,r3⟩:=k;exact⟨v,h',e,qaA a.len l,fun n hn hq=>(b n hn hq).trans (a.base n hn hq),r1,r2,r3⟩
 | bad=>trivial
theorem SOk.fr(hf:f'=true->f=true)(k:SOk q L h B O ws f o r):SOk q L h B O ws f' o r:=by
 cases r with
 | rt d s=>obtain⟨v,h',e,l,b,p,r,z⟩:=k;exact⟨v,h',e,l,b,p,r,fun y=>z (hf y)⟩
 | nx env s=>exact k
 | bk env s=>exact k
 | ct env s=>exact k
 | exc c env s=>exact k
 | rse c env s=>exact k
 | bad=>trivial
theorem KB.stp(c:Cx q h L B O ws σ env s)(k:KB q h h'):Stp q L h O h' O :=
 ⟨k.len,k.mv c.pO,fun _ h=>h,fun n hn hq=>k.keep n (qat hn c.hL) hq⟩
def PR.go{α:Type}(r:PR α)(env:aq)(k:α->aq->Pen->PS):PS:=match r with
 | .ok a s=>k a env s
 | .exc c s=>.exc c env s
 | .bad=>.bad
@[simp] theorem PR.go_ok(a:α)(s:Pen)(env:aq)(k:α->aq->Pen->PS):(PR.ok a s).go env k=k a env s:=rfl
@[simp] theorem PR.go_exc(c:Str)(s:Pen)(env:aq)(k:α->aq->Pen->PS):(PR.exc c s:PR α).go env k=.exc c env s:=rfl
@[simp] theorem PR.go_bad(env:aq)(k:α->aq->Pen->PS):(PR.bad:PR α).go env k=.bad:=rfl
theorem SOk.ex{α β:Type}{q L:Nat}{h:MH}{B O ws:List Nat}{fr:Bool}{σ:PSt}{env:aq}{s:Pen}{o:Out β}{r:PR α}{R:MH->α->β->Prop}{f:β->Mst}{g:α->aq->Pen->PS}(c:Cx q h L B O ws σ env s)(d:Dis ws σ env)(k:Ok q h o r R)
  (n:∀a b h1 s1,KB q h h1->Cx q h1 L B O ws σ env s1->R h1 a b->SOk q L h1 B O ws fr (f b σ h1) (g a env s1)) :
  SOk q L h B O ws fr (o.go σ f) (r.go env g):=by
 cases r with
 | ok a s1 =>
  obtain⟨b,h1,rfl,kb,pn,rr⟩:=k;exact (n a b h1 s1 kb (c.kb kb pn) rr).after (kb.stp c)
 | exc x s1 =>
  obtain⟨h1,rfl,kb,pn⟩:=k;exact⟨σ,h1,rfl,O,kb.stp c,c.kb kb pn,d⟩
 | bad=>trivial
noncomputable section
variable {ws:List Nat}
def PS.then(r:PS)(k:aq->Pen->PS):PS:=match r with
 | .nx env s=>k env s
 | r=>r
@[simp] theorem av:(PS.nx env s).then k=k env s:=rfl
@[simp] theorem then_rt:(PS.rt d s).then k=.rt d s:=rfl
@[simp] theorem then_bk:(PS.bk env s).then k=.bk env s:=rfl
@[simp] theorem then_ct:(PS.ct env s).then k=.ct env s:=rfl
@[simp] theorem tR:(PS.exc c env s).then k=.exc c env s:=rfl
@[simp] theorem ub:(PS.rse c env s).then k=.rse c env s:=rfl
@[simp] theorem tY:PS.bad.then k=.bad:=rfl
def aI(a b:Xd ws):Xd ws where
 m:=aF a.m b.m
 p:=fun env s=>(a.p env s).then b.p
 fr:=a.fr && b.fr
 ok {q h L B O σ env s} c d:=by
  have k:=a.ok c d;show SOk q L h B O ws _ ((a.m σ h).then b.m) _
  cases e:a.p env s with
  | nx env1 s1 =>
   rw[e] at k;obtain⟨σ1,h1,e1,O1,st,c1,d1⟩:=k;rw[e1];exact ((b.ok c1 d1).fr (by simp)).after st
  | rt x s1=>rw[e] at k;obtain⟨v,h',e1,r1,r2,r3,r4,r5⟩:=k;rw[e1];exact SOk.fr (f:=a.fr) (by simp;exact fun h _=>h) (show SOk q L h B O ws a.fr (.rt v h') (.rt x s1) from⟨v,h',rfl,r1,r2,r3,r4,r5⟩)
  | bk env1 s1=>rw[e] at k;obtain⟨σ',h',e1,r⟩:=k;rw[e1];exact⟨σ',h',rfl,r⟩
  | ct env1 s1=>rw[e] at k;obtain⟨σ',h',e1,r⟩:=k;rw[e1];exact⟨σ',h',rfl,r⟩
  | exc x env1 s1=>rw[e] at k;obtain⟨σ',h',e1,r⟩:=k;rw[e1];exact⟨σ',h',rfl,r⟩
  | rse x env1 s1=>rw[e] at k;obtain⟨σ',h',e1,r⟩:=k;rw[e1];exact⟨σ',h',rfl,r⟩
  | bad=>trivial
def xSkip:Xd ws where
 m:=mSkip
 p:=.nx
 fr:=true
 ok {q h L B O σ env s} c d:=⟨σ,h,rfl,O,Stp.refl _ _ _ _,c,d⟩
theorem ret_go{m:Mx PV}{σ:PSt}{h:MH}:aV m σ h=(m σ h).go σ fun v _ h'=>.rt v h':=by unfold aV;cases m σ h <;> rfl
def bR(e:Xe ws):Xd ws where
 m:=aV e.m
 p:=fun env s=>(e.p env s).go env fun d _ s=>.rt d s
 fr:=e.fr
 ok {q h L B O σ env s} c d:=by
  rw[ret_go];refine SOk.ex (f:=fun v _ h'=>.rt v h') (g:=fun d _ s=>.rt d s) c d (e.ok c) fun x v h1 s1 kb c1 ⟨w,z,f⟩=>?_;refine⟨v,h1,rfl,qag _,fun _ _ _=>rfl,c1.pen,w.base c1.sub c1.bb,fun y=>?_⟩;intro ds ed;obtain⟨n,xs,a1,a2,a3,a4⟩:=f y ds ed
  have:=c.hL
  exact⟨n,xs,a1,by omega,a3,a4.mv ⟨fun _ _ _=>rfl,fun o ho=>.inl (by
   rcases qan.mp ho with z|z
   ·subst z;simp
   ·exact qak _ (c.sub o z))⟩⟩
def lP(i:Nat)(hi:ws.contains i=true:=by exact ys rfl):Xd ws where
 m:=aV (af i)
 p:=fun env s=>match env[i]? with
  | some (some d)=>.rt d s
  | _=>.bad
 fr:=true
 ok {q h L B O σ env s} c d:=by
  show SOk q L h B O ws _ _ (match env[i]? with | some (some d)=>PS.rt d s | _=>.bad)
  cases e:env[i]? with
  | none=>trivial
  | some o =>
   cases o with
   | none=>trivial
   | some x =>
    obtain⟨n,xs,ds,e1,e2,a,b,g,r⟩:=c.sr.ow i x e (by simpa using hi);subst e1
    have m1:Mv O h (n::B) h:=⟨fun _ _ _=>rfl,fun o ho=>.inl (by
     rcases qan.mp ho with z|z
     ·subst z;exact a
     ·exact c.sub o z)⟩
    have f:Frs q L B h (.lst ds) (.loc n):=fun ds' e=>by cases e;exact⟨n,xs,rfl,b,g,r.mv m1⟩
    refine⟨.loc n,h,by simp[aV,af,e2],qag _,fun _ _ _=>rfl,c.pen,f.rp c.bb rfl,fun _=>f⟩
def xDrop(e:Xe ws):Xd ws where
 m:=dH e.m
 p:=fun env s=>(e.p env s).go env fun _=>.nx
 fr:=true
 ok {q h L B O σ env s} c d:=SOk.ex (f:=fun _=>mSkip) (g:=fun _=>.nx) c d (e.ok c) fun x v h1 s1 kb c1 _=>⟨σ,h1,rfl,O,Stp.refl _ _ _ _,c1,d⟩
def xIf(t:Xt ws)(a b:Xd ws):Xd ws where
 m:=mIf t.m a.m b.m
 p:=fun env s=>(t.p env s).go env fun x env s=>if x=true then a.p env s else b.p env s
 fr:=a.fr && b.fr
 ok {q h L B O σ env s} c d:=SOk.ex (f:=fun x=>if x=true then a.m else b.m) (g:=fun x env s=>if x=true then a.p env s else b.p env s) c d (t.ok c) fun x v h1 s1 kb c1 e=>by
  subst e
  cases x with
  | true=>exact (a.ok c1 d).fr (by simp;exact fun h _=>h)
  | false=>exact (b.ok c1 d).fr (by simp)
theorem Dis.keep(d:Dis ws σ env)(k:∀i∈ws,σ'[i]?=σ[i]?/\env'[i]?=env[i]?):Dis ws σ' env':=fun i j hi hj ne x y n a b e=>by
 rw[(k i hi).1] at e;rw[(k i hi).2] at a;rw[(k j hj).2] at b;rw[(k j hj).1];exact d i j hi hj ne x y n a b e
def br(i:Nat)(e:Xe ws)(hi:ws.contains i=false:=by exact ys rfl)(hz:e.fz=true:=by exact ys rfl):Xd ws where
 m:=aO i e.m
 p:=fun env s=>(e.p env s).go env fun d env s=>.nx (env.set i (some d)) s
 fr:=true
 ok {q h L B O σ env s} c d:=by
  refine SOk.ex (f:=fun v σ h=>.nx (σ.set i (some v)) h) (g:=fun d env s=>.nx (env.set i (some d)) s) c d (e.ok c) fun x v h1 s1 kb c1 ⟨_,z,_⟩=>?_;obtain⟨a,b⟩:=c1.sr.set (i:=i) (fun z=>by simp[z] at hi) (z hz);exact⟨_,h1,rfl,O,Stp.refl _ _ _ _,⟨c1.bd,c1.sub,c1.bb,c1.pb,c1.hL,c1.pen,a⟩,d.keep b⟩
def ip(i:Nat)(e:Xe ws)(hi:ws.contains i=true:=by exact ys rfl)(hz:e.fr=true:=by exact ys rfl):Xd ws where
 m:=aO i e.m
 p:=fun env s=>(e.p env s).go env fun d env s=>match d with
  | .lst ds=>.nx (env.set i (some (.lst ds))) s
  | _=>.bad
 fr:=true
 ok {q h L B O σ env s} c d:=by
  show SOk q L h B O ws _ _ _;have k:=e.ok c;show SOk q L h B O ws _ ((e.m σ h).go σ fun v σ h=>.nx (σ.set i (some v)) h) _
  cases ee:e.p env s with
  | bad=>trivial
  | exc x s1 =>
   rw[ee] at k;obtain⟨h1,e1,kb,pn⟩:=k;rw[e1];exact⟨σ,h1,rfl,O,kb.stp c,c.kb kb pn,d⟩
  | ok x s1 =>
   rw[ee] at k;obtain⟨v,h1,e1,kb,pn,_,_,f⟩:=k;rw[e1]
   cases x with
   | lst ds =>
    obtain⟨n,xs,rfl,hn,g,r⟩:=f hz ds rfl;have c1:=c.kb kb pn;have hi':i∈ws:=by simpa using hi
    have mv:Mv O h (n::O) h1:=⟨fun m hm no=>kb.keep m hm fun z=>no (z▸c.pO),fun o ho=>by
     rcases qan.mp ho with z|z
     ·exact .inr (by omega)
     ·exact .inl z⟩
    have hnO:n∉O:=fun z=>by have:=c.bd n z;omega
    refine⟨σ.set i (some (.loc n)),h1,rfl,n::O,⟨kb.len,mv,fun o ho=>qak _ ho,fun m hm hq=>kb.keep m (qat hm c.hL) hq⟩,⟨fun o ho=>?_,fun o ho=>qak _ (c.sub o ho),c.bb,c.pb,c1.hL,pn,?_⟩,?_⟩
    ·rcases qan.mp ho with z|z
     ·subst z;exact aX g
     ·exact c1.bd o z
    ·have sr:=c.sr.mv mv (fun o ho=>qak _ ho) fun m hm hl _=>kb.keep m hm (by have:=c.pL;omega);refine⟨by simp[sr.len],fun j x ej hj=>?_,fun j x ej hj=>?_⟩
     ·have ne:i≠j:=fun z=>hj (z▸hi');rw[qad ne] at ej;rw[qad ne];exact sr.fz j x ej hj
     ·by_cases z:i=j
      ·subst z;have hl:i<env.length:=by have:=(qab.mp ej).1;simpa using this
       rw[qas hl] at ej;cases ej;exact⟨n,xs,ds,rfl,qas (by rw[sr.len];exact hl),by simp,by have:=c.hL;omega,g,r⟩
      ·rw[qad z] at ej;rw[qad z];exact sr.ow j x ej hj
    ·have old:∀j d,j∈ws->i≠j->(env.set i (some (.lst ds)))[j]?=some (some d)->(σ.set i (some (.loc n)))[j]?≠some (some (.loc n)):=fun j d hj ne ej z=>by
      rw[qad ne] at ej z;obtain⟨n',_,_,_,b2,b3,_⟩:=c.sr.ow j d ej hj;rw[z] at b2;cases b2;exact hnO b3
     intro a b ha hb ne x y m ea eb es;by_cases z1:i=a
     ·subst z1;have hl:i<σ.length:=by have:=(qab.mp es).1;simpa using this
      rw[qas hl] at es;cases es;exact old b y hb ne eb
     ·by_cases z2:i=b
      ·subst z2;intro z;have hl:i<σ.length:=by have:=(qab.mp z).1;simpa using this
       rw[qas hl] at z;cases z;exact old a x ha z1 ea es
      ·rw[qad z1] at ea es;rw[qad z2] at eb ⊢;exact d a b ha hb ne x y m ea eb es
   | _=>trivial
def sU(x:Str)(a:Xs ws):Xd ws where
 m:=gR x a.m
 p:=fun env s=>(a.p env s).go env fun ds env s=>if ds.length<=100000 then .rse x env s else .bad
 fr:=true
 ok {q h L B O σ env s} c d:=by
  refine SOk.ex (f:=fun (vs:List PV) σ h=>if vs.length<=sizeLine then .rse ⟨x,[]⟩ σ h else .bad) (g:=fun (ds:List D) env s=>if ds.length<=100000 then .rse x env s else .bad) c d (a.ok c) fun ds vs h1 s1 kb c1 ⟨w,_⟩=>?_;have hl:∀{ds:List D} {vs:List PV},Vws q h1 L O ds vs->vs.length=ds.length:=by
   intro ds
   induction ds with
   | nil=>intro vs w;rw[show vs=[] from w];rfl
   | cons d ds ih=>intro vs w;obtain⟨x,r,e,_,b⟩:=w;rw[e,qaM,qaM,ih b]
  by_cases z:ds.length<=100000
  ·rw[qaf z,qaf (by have:=cL;rw[hl w];omega)];exact⟨σ,h1,rfl,O,Stp.refl _ _ _ _,c1,d⟩
  ·rw[qai z];trivial
def xTry(cs:List Str)(iy inn:Nat)(b:Xd ws)(h1:ws.contains iy=false:=by exact ys rfl)(h2:ws.contains inn=false:=by exact ys rfl):Xd ws where
 m:=nA cs iy inn b.m
 p:=fun env s=>match b.p env s with
  | .exc c e s=>if c∈cs then .nx (((e.set inn (some (.exc c))).set iy (some (.exc c))).set inn none) s else .bad
  | .rse _ _ _=>.bad
  | r=>r
 fr:=b.fr
 ok {q h L B O σ env s} c d:=by
  have k:=b.ok c d
  show SOk q L h B O ws _ (match b.m σ h with
   | .exc x σ1 h1=>if x.fs=[]/\x.cls∈cs then .nx (((σ1.set inn (some (.loc h1.length))).set iy (some (.loc h1.length))).set inn none) (h1++[.exc x]) else .bad
   | .rse _ _ _=>.bad
   | o=>o) (match b.p env s with
   | .exc c e s=>if c∈cs then PS.nx (((e.set inn (some (.exc c))).set iy (some (.exc c))).set inn none) s else .bad
   | .rse _ _ _=>.bad
   | r=>r)
  cases e:b.p env s with
  | nx env1 s1=>rw[e] at k;obtain⟨σ',h',e1,r⟩:=k;rw[e1];exact⟨σ',h',rfl,r⟩
  | rt x s1=>rw[e] at k;obtain⟨v,h',e1,r1,r2,r3,r4,r5⟩:=k;rw[e1];exact⟨v,h',rfl,r1,r2,r3,r4,r5⟩
  | bk env1 s1=>rw[e] at k;obtain⟨σ',h',e1,r⟩:=k;rw[e1];exact⟨σ',h',rfl,r⟩
  | ct env1 s1=>rw[e] at k;obtain⟨σ',h',e1,r⟩:=k;rw[e1];exact⟨σ',h',rfl,r⟩
  | rse x env1 s1=>trivial
  | bad=>trivial
  | exc x env1 s1 =>
   rw[e] at k;obtain⟨σ',h',e1,O',st,c',d'⟩:=k;rw[e1];dsimp only;by_cases z:x∈cs
   ·rw[qaf z,qaf ⟨rfl,z⟩];have kb:=KB.app q h' [MO.exc ⟨x,[]⟩];have c2:=c'.kb kb c'.pen.app;have r:Rp q (h'++[MO.exc ⟨x,[]⟩]) O' (.exc x) (.loc h'.length):=⟨_,rfl,fun z=>by have:=c'.bd _ z;omega,by simp⟩;have n1:inn∉ws:=fun z=>by simp[z] at h2
    have n2:iy∉ws:=fun z=>by simp[z] at h1
    obtain⟨a1,b1⟩:=c2.sr.set n1 r;obtain⟨a2,b2⟩:=a1.set n2 r;have ne:∀j∈ws,inn≠j:=fun j hj z=>n1 (z▸hj);have a3:SR q (h'++[MO.exc ⟨x,[]⟩]) L O' ws (((σ'.set inn (some (.loc h'.length))).set iy (some (.loc h'.length))).set inn none) (((env1.set inn (some (.exc x))).set iy (some (.exc x))).set inn none):=by
     refine⟨by simp[a2.len],fun j y ej hj=>?_,fun j y ej hj=>?_⟩
     ·by_cases z:inn=j
      ·subst z;have hl:inn<((env1.set inn (some (D.exc x))).set iy (some (D.exc x))).length:=by have:=(qab.mp ej).1;simpa using this
       rw[qas hl] at ej;cases ej
      ·rw[qad z] at ej;rw[qad z];exact a2.fz j y ej hj
     ·rw[qad (ne j hj)] at ej;rw[qad (ne j hj)];exact a2.ow j y ej hj
    refine⟨_,_,rfl,O',st.trans (kb.stp c'),⟨c2.bd,c2.sub,c2.bb,c2.pb,c2.hL,c2.pen,a3⟩,d'.keep fun j hj=>?_⟩;have nj:inn≠j:=ne j hj;refine⟨?_,?_⟩
    ·rw[qad nj,(b2 j hj).1,(b1 j hj).1]
    ·rw[qad nj,(b2 j hj).2,(b1 j hj).2]
   ·rw[qai z];trivial
end
end PU
namespace PU
open PySem MM
open L2 (ixN)
noncomputable local instance (priority:=1) cdecN5 (p:Prop):Decidable p:=Classical.propDecidable p
noncomputable section
variable {ws:List Nat}
def PS.turn(r:PS)(k:aq->Pen->PS):PS:=match r with
 | .nx e s=>k e s
 | .ct e s=>k e s
 | .bk e s=>.nx e s
 | r=>r
@[simp] theorem turn_nx:(PS.nx e s).turn k=k e s:=rfl
@[simp] theorem turn_ct:(PS.ct e s).turn k=k e s:=rfl
@[simp] theorem turn_bk:(PS.bk e s).turn k=.nx e s:=rfl
@[simp] theorem turn_rt:(PS.rt d s).turn k=.rt d s:=rfl
@[simp] theorem ux:(PS.exc c e s).turn k=.exc c e s:=rfl
@[simp] theorem tD:(PS.rse c e s).turn k=.rse c e s:=rfl
@[simp] theorem turn_bad:PS.bad.turn k=.bad:=rfl
def pGo(g:D->aq->Option aq)(b:aq->Pen->PS):List D->aq->Pen->PS
 | [],env,s=>.nx env s
 | d::ds,env,s=>match g d env with
  | none=>.bad
  | some env1=>(b env1 s).turn (pGo g b ds)
theorem mGo_ok(g:Xg ws)(b:Xd ws):∀(ds:List D) (xs:List PV) (env:aq) (σ:PSt) (h:MH) (O:List Nat) (s:Pen),Cx q h L B O ws σ env s->Dis ws σ env->Rps q h O ds xs->(∀y∈it.gd,h[y.1]?=some (.lst y.2)/\y.1∉O) ->
  SOk q L h B O ws b.fr (mGo it g.m b.m xs σ h) (pGo g.p b.p ds env s):=by
 intro ds
 induction ds with
 | nil =>
  intro xs env σ h O s c d r gd
  have:xs=[]:=r
  subst this;have ok:it.ok h:=fun y hy=>(gd y hy).1;refine⟨σ,h,by rw[mGo];dsimp only;rw[qaf ok],O,Stp.refl _ _ _ _,c,d⟩
 | cons x ds ih =>
  intro xs env σ h O s c d r gd;obtain⟨v,xr,rfl,r1,r2⟩:=r;have ok:it.ok h:=fun y hy=>(gd y hy).1;rw[pGo]
  cases eg:g.p x env with
  | none=>trivial
  | some env1 =>
   obtain⟨σ1,f1,sr,k⟩:=g.ok c.sr r1 eg;have c1:Cx q h L B O ws σ1 env1 s:=⟨c.bd,c.sub,c.bb,c.pb,c.hL,c.pen,sr⟩;have kb:=b.ok c1 (d.keep k)
   have em:mGo it g.m b.m (v::xr) σ h=(match b.m σ1 h with
    | .nx σ2 h2=>mGo it g.m b.m xr σ2 h2
    | .ct σ2 h2=>mGo it g.m b.m xr σ2 h2
    | .bk σ2 h2=>.nx σ2 h2
    | .rt v h2=>.rt v h2
    | .exc e σ2 h2=>.exc e σ2 h2
    | .rse e σ2 h2=>.rse e σ2 h2
    | .bad=>.bad):=by rw[mGo];dsimp only;(rw[qaf ok,f1]) <;> rfl
   rw[em];have gd':∀{h2:MH} {O2:List Nat},Stp q L h O h2 O2->∀y∈it.gd,h2[y.1]?=some (.lst y.2)/\y.1∉O2:=fun st y hy=>by
    obtain⟨a,b⟩:=st.mv.get (gd y hy).1 (gd y hy).2;exact⟨b,a⟩
   dsimp only
   cases eb:b.p env1 s with
   | bad=>trivial
   | nx e2 s2 =>
    rw[eb] at kb;obtain⟨σ2,h2,e1,O2,st,c2,d2⟩:=kb;rw[e1];exact (ih xr e2 σ2 h2 O2 s2 c2 d2 (r2.mv st.mv) (gd' st)).after st
   | ct e2 s2 =>
    rw[eb] at kb;obtain⟨σ2,h2,e1,O2,st,c2,d2⟩:=kb;rw[e1];exact (ih xr e2 σ2 h2 O2 s2 c2 d2 (r2.mv st.mv) (gd' st)).after st
   | bk e2 s2=>rw[eb] at kb;obtain⟨σ2,h2,e1,r⟩:=kb;rw[e1];exact⟨σ2,h2,rfl,r⟩
   | exc x e2 s2=>rw[eb] at kb;obtain⟨σ2,h2,e1,r⟩:=kb;rw[e1];exact⟨σ2,h2,rfl,r⟩
   | rse x e2 s2=>rw[eb] at kb;obtain⟨σ2,h2,e1,r⟩:=kb;rw[e1];exact⟨σ2,h2,rfl,r⟩
   | rt x s2=>rw[eb] at kb;obtain⟨v,h2,e1,r1,r2,r3,r4,r5⟩:=kb;rw[e1];exact⟨v,h2,rfl,r1,r2,r3,r4,r5⟩
def m5(i:Xi ws)(g:Xg ws)(b:Xd ws)(hz:i.fz=true:=by exact ys rfl):Xd ws where
 m:=gM i.m g.m b.m
 p:=fun env s=>(i.p env s).go env fun ds env s=>pGo g.p b.p ds env s
 fr:=b.fr
 ok {q h L B O σ env s} c d:=SOk.ex (f:=fun it=>mGo it g.m b.m it.xs) (g:=fun ds env s=>pGo g.p b.p ds env s) c d (i.ok c) fun ds it h1 s1 kb c1 r =>
  mGo_ok g b ds it.xs env σ h1 O s1 c1 d r.1 fun y hy=>⟨(r.2.1 y hy).1,r.2.2 hz y hy⟩
def gZ(t:aq->Pen->PR Bool)(b:aq->Pen->PS):Nat->aq->Pen->PS
 | 0,_,_=>.bad
 | n+1,env,s=>(t env s).go env fun x env s=>if x=true then (b env s).turn (gZ t b n) else .nx env s
theorem kJ(t:Xt ws)(b:Xd ws):∀(n:Nat) (env:aq) (σ:PSt) (h:MH) (O:List Nat) (s:Pen),Cx q h L B O ws σ env s->Dis ws σ env->SOk q L h B O ws b.fr (bw t.m b.m n σ h) (gZ t.p b.p n env s)
 | 0,env,σ,h,O,s,c,d=>trivial
 | n+1,env,σ,h,O,s,c,d=>by
  refine SOk.ex (f:=fun x=>if x=true then (fun σ h=>match b.m σ h with
   | .nx σ2 h2=>bw t.m b.m n σ2 h2
   | .ct σ2 h2=>bw t.m b.m n σ2 h2
   | .bk σ2 h2=>.nx σ2 h2
   | .rt v h2=>.rt v h2
   | .exc e σ2 h2=>.exc e σ2 h2
   | .rse e σ2 h2=>.rse e σ2 h2
   | .bad=>.bad) else mSkip) (g:=fun x env s=>if x=true then (b.p env s).turn (gZ t.p b.p n) else .nx env s) c d (t.ok c) fun x v h1 s1 kb c1 e=>?_
  subst e
  cases x with
  | false=>exact⟨σ,h1,rfl,O,Stp.refl _ _ _ _,c1,d⟩
  | true =>
   have k:=b.ok c1 d;rw[qaf rfl,qaf rfl]
   cases eb:b.p env s1 with
   | bad=>trivial
   | nx e2 s2 =>
    rw[eb] at k;obtain⟨σ2,h2,e1,O2,st,c2,d2⟩:=k;rw[e1];exact (kJ t b n e2 σ2 h2 O2 s2 c2 d2).after st
   | ct e2 s2 =>
    rw[eb] at k;obtain⟨σ2,h2,e1,O2,st,c2,d2⟩:=k;rw[e1];exact (kJ t b n e2 σ2 h2 O2 s2 c2 d2).after st
   | bk e2 s2=>rw[eb] at k;obtain⟨σ2,h2,e1,r⟩:=k;rw[e1];exact⟨σ2,h2,rfl,r⟩
   | exc x e2 s2=>rw[eb] at k;obtain⟨σ2,h2,e1,r⟩:=k;rw[e1];exact⟨σ2,h2,rfl,r⟩
   | rse x e2 s2=>rw[eb] at k;obtain⟨σ2,h2,e1,r⟩:=k;rw[e1];exact⟨σ2,h2,rfl,r⟩
   | rt x s2=>rw[eb] at k;obtain⟨v,h2,e1,r1,r2,r3,r4,r5⟩:=k;rw[e1];exact⟨v,h2,rfl,r1,r2,r3,r4,r5⟩
def xWh(N:Nat)(t:Xt ws)(b:Xd ws)(hm:∀{σ h n},bw t.m b.m n σ h≠.bad->mWh t.m b.m σ h=bw t.m b.m n σ h):Xd ws where
 m:=mWh t.m b.m
 p:=gZ t.p b.p N
 fr:=b.fr
 ok {q h L B O σ env s} c d:=by
  have k:=kJ t b N env σ h O s c d;by_cases z:bw t.m b.m N σ h=.bad
  ·rw[z] at k
   cases e:gZ t.p b.p N env s with
   | bad=>trivial
   | nx e2 s2=>rw[e] at k;obtain⟨_,_,e1,_⟩:=k;cases e1
   | ct e2 s2=>rw[e] at k;obtain⟨_,_,e1,_⟩:=k;cases e1
   | bk e2 s2=>rw[e] at k;obtain⟨_,_,e1,_⟩:=k;cases e1
   | exc x e2 s2=>rw[e] at k;obtain⟨_,_,e1,_⟩:=k;cases e1
   | rse x e2 s2=>rw[e] at k;obtain⟨_,_,e1,_⟩:=k;cases e1
   | rt x s2=>rw[e] at k;obtain⟨_,_,e1,_⟩:=k;cases e1
  ·rw[hm z];exact k
structure OpM where
 m:Nat->List PV->MH->Out PV
 p:List D->List D->Option (D × List D)
 ok:∀{q:Nat} {h:MH} {O:List Nat} {n:Nat} {xs:List PV} {ds as:List D} {vs:List PV} {d:D} {ds':List D},h[n]?=some (.lst xs)->Rps q h O ds xs->Rps q h O as vs->p ds as=some (d,ds')->∃v xs',m n vs h=.ok v (h.set n (.lst xs'))/\Rps q h O ds' xs'/\Rp q h O d v
theorem pM{q h L B O σ env s n xs' ds' i ds}(c:Cx q h L B O ws σ env s)(d:Dis ws σ env)(hi:i∈ws)(e:env[i]?=some (some (D.lst ds)))(es:σ[i]?=some (some (.loc n)))(r:Rps q h O ds' xs') :
  Nxt q L h B O ws σ (h.set n (.lst xs')) (env.set i (some (.lst ds'))) s:=by
 obtain⟨n',xs,ds0,e0,e2,a,b,g,r0⟩:=c.sr.ow i _ e hi;rw[es] at e2;cases e2;have mv:Mv O h O (h.set n (.lst xs')):=⟨fun m hm no=>qad (fun (z:n=m)=>no (z▸a)),fun o ho=>.inl ho⟩;have hp:=c.pL;have il:i<env.length:=(qab.mp e).1;refine⟨O,⟨by simp,mv,fun _ h=>h,fun m hm _=>qad (by omega)⟩,⟨fun o ho=>by simpa using c.bd o ho,c.sub,c.bb,c.pb,by simpa using c.hL,?_,⟨by simp[c.sr.len],fun j x ej hj=>?_,fun j x ej hj=>?_⟩⟩,?_⟩
 ·unfold bG;rw[qad (by omega)];exact c.pen
 ·have ne:i≠j:=fun z=>hj (z▸hi);rw[qad ne] at ej;obtain⟨v,e1,w⟩:=c.sr.fz j x ej hj;exact⟨v,e1,w.mv mv⟩
 ·by_cases z:i=j
  ·subst z;rw[qas il] at ej;cases ej;exact⟨n,xs',ds',rfl,es,a,b,qas (aX g),r.mv mv⟩
  ·rw[qad z] at ej;obtain⟨m,ys,es',e1,e3,b3,b4,b5,b6⟩:=c.sr.ow j x ej hj
   have:n≠m:=fun y=>d i j hi hj z _ _ n e ej es (y▸e3)
   exact⟨m,ys,es',e1,e3,b3,b4,by rw[qad this];exact b5,b6.mv mv⟩
 ·intro j k hj hk ne x y m ej ek e1;have up:∀j x,(env.set i (some (D.lst ds')))[j]?=some (some x)->∃x',env[j]?=some (some x'):=fun j x ej=>by
   by_cases z:i=j
   ·subst z;exact⟨_,e⟩
   ·rw[qad z] at ej;exact⟨x,ej⟩
  obtain⟨x',ej'⟩:=up j x ej;obtain⟨y',ek'⟩:=up k y ek;exact d j k hj hk ne x' y' m ej' ek' e1
theorem mt_ok(o:OpM)(i:Nat)(a:Xs ws)(hi:i∈ws)(hz:a.fz=true){q h L B O σ env s}(c:Cx q h L B O ws σ env s)(d:Dis ws σ env)
  (ea:a.p env s=.ok as s1) (ei:env[i]?=some (some (.lst ds))) (eo:o.p ds as=some (r,ds')):∃v h1 n xs',KB q h h1/\Cx q h1 L B O ws σ env s1/\σ[i]?=some (some (.loc n))/\mMt o.m (af i) a.m σ h=.ok v (h1.set n (.lst xs'))/\Rps q h1 O ds' xs'/\Rp q h1 O r v:=by
 obtain⟨n,xs,ds0,e0,e2,b1,b2,g,r0⟩:=c.sr.ow i _ ei hi;cases e0;have ka:=a.ok c;rw[ea] at ka;obtain⟨vs,h1,e3,kb,pn,_,rv⟩:=ka;have c1:=c.kb kb pn;have g1:h1[n]?=some (.lst xs):=(kb.keep n (aX g) (by have:=c.pL;omega)).trans g;obtain⟨v,xs',e4,r1,r2⟩:=o.ok g1 (r0.mv (kb.mv c.pO)) (rv hz) eo;refine⟨v,h1,n,xs',kb,c1,e2,?_,r1,r2⟩;have em:af i σ h=.ok (.loc n) h:=by simp[af,e2]
 show (af i σ h).bind _=_;rw[em];simp only[Out.bind_ok,g,e3,e4,Out.ne_ok]
def pMt(o:OpM)(i:Nat)(a:aq->Pen->PR (List D))(env:aq)(s:Pen)(k:D->aq->Pen->PS):PS:=match a env s with
 | .ok as s1=>(match env[i]? with
  | some (some (.lst ds))=>(match o.p ds as with
   | some (r,ds')=>k r (env.set i (some (.lst ds'))) s1
   | none=>.bad)
  | _=>.bad)
 | _=>.bad
theorem sV(e1:a env s=.ok as s1)(e2:env[i]?=some (some (.lst ds)))(e3:o.p ds as=some (r,ds')):pMt o i a env s k=k r (env.set i (some (.lst ds'))) s1:=by
 simp only[pMt,e1,e2,e3]
theorem pMt_inv:pMt o i a env s k=.bad\/∃as s1 ds r ds',a env s=.ok as s1/\env[i]?=some (some (.lst ds))/\o.p ds as=some (r,ds')/\pMt o i a env s k=k r (env.set i (some (.lst ds'))) s1:=by
 cases e1:a env s with
 | bad=>left;simp only[pMt,e1]
 | exc _ _=>left;simp only[pMt,e1]
 | ok as s1 =>
  cases e2:env[i]? with
  | none=>left;simp only[pMt,e1,e2]
  | some x =>
   cases x with
   | none=>left;simp only[pMt,e1,e2]
   | some d =>
    cases d with
    | lst ds =>
     cases e3:o.p ds as with
     | none=>left;simp only[pMt,e1,e2,e3]
     | some y=>exact .inr ⟨as,s1,ds,y.1,y.2,rfl,rfl,e3,sV e1 e2 e3⟩
    | _=>left;simp only[pMt,e1,e2]
def xMt(o:OpM)(i:Nat)(a:Xs ws)(hi:ws.contains i=true:=by exact ys rfl)(hz:a.fz=true:=by exact ys rfl):Xd ws where
 m:=dH (mMt o.m (af i) a.m)
 p:=fun env s=>pMt o i a.p env s fun _=>.nx
 fr:=true
 ok {q h L B O σ env s} c d:=by
  rcases pMt_inv (o:=o) (i:=i) (a:=a.p) (env:=env) (s:=s) (k:=fun _=>.nx) with z|⟨as,s1,ds,r,ds',e1,e2,e3,z⟩
  ·rw[z];trivial
  ·rw[z];have hi':i∈ws:=by simpa using hi
   obtain⟨v,h1,n,xs',kb,c1,es,em,r1,r2⟩:=mt_ok o i a hi' hz c d e1 e2 e3;refine⟨σ,h1.set n (.lst xs'),?_,(pM c1 d hi' e2 es r1).after (kb.stp c)⟩;unfold dH mEx;rw[em];rfl
def cQ(i:Nat)(e ix:aq->Pen->PR D)(env:aq)(s:Pen):PS:=match e env s with
 | .ok v s1=>(match ix env s1 with
  | .ok (.int j) s2=>(match env[i]? with
   | some (some (.lst ds))=>(match ixN ds.length j with
    | some n=>.nx (env.set i (some (.lst (ds.set n v)))) s2
    | none=>.bad)
   | _=>.bad)
  | _=>.bad)
 | _=>.bad
theorem kQ(e1:e env s=.ok v s1)(e2:ix env s1=.ok (.int j) s2)(e3:env[i]?=some (some (.lst ds)))(e4:ixN ds.length j=some n):cQ i e ix env s=.nx (env.set i (some (.lst (ds.set n v)))) s2:=by
 simp only[cQ,e1,e2,e3,e4]
theorem ue:cQ i e ix env s=.bad\/∃v s1 j s2 ds n,e env s=.ok v s1/\ix env s1=.ok (.int j) s2/\env[i]?=some (some (.lst ds))/\ixN ds.length j=some n/\cQ i e ix env s=.nx (env.set i (some (.lst (ds.set n v)))) s2:=by
 cases e1:e env s with
 | bad=>left;simp only[cQ,e1]
 | exc _ _=>left;simp only[cQ,e1]
 | ok v s1 =>
  cases e2:ix env s1 with
  | bad=>left;simp only[cQ,e1,e2]
  | exc _ _=>left;simp only[cQ,e1,e2]
  | ok k s2 =>
   cases k with
   | int j =>
    cases e3:env[i]? with
    | none=>left;simp only[cQ,e1,e2,e3]
    | some x =>
     cases x with
     | none=>left;simp only[cQ,e1,e2,e3]
     | some d =>
      cases d with
      | lst ds =>
       cases e4:ixN ds.length j with
       | none=>left;simp only[cQ,e1,e2,e3,e4]
       | some n=>exact .inr ⟨v,s1,j,s2,ds,n,rfl,e2,rfl,e4,kQ e1 e2 e3 e4⟩
      | _=>left;simp only[cQ,e1,e2,e3]
   | _=>left;simp only[cQ,e1,e2]
theorem Vw.int(w:Vw q h L O (.int b) v):v=.int b:=by
 rcases w with r|⟨n,xs,ds,e,_⟩
 ·exact r
 ·cases e
def nt(i:Nat)(e ix:Xe ws)(hi:ws.contains i=true:=by exact ys rfl)(hz:e.fz=true:=by exact ys rfl):Xd ws where
 m:=gO e.m (gSb (af i) ix.m)
 p:=cQ i e.p ix.p
 fr:=true
 ok {q h L B O σ env s} c d:=by
  rcases ue (i:=i) (e:=e.p) (ix:=ix.p) (env:=env) (s:=s) with z|⟨v,s1,j,s2,ds,n,e1,e2,e3,e4,z⟩
  ·rw[z];trivial
  ·rw[z];have hi':i∈ws:=by simpa using hi
   have ke:=e.ok c;rw[e1] at ke;obtain⟨x,h1,f1,kb1,pn1,_,rx,_⟩:=ke;have c1:=c.kb kb1 pn1;have ki:=ix.ok c1;rw[e2] at ki;obtain⟨y,h2,f2,kb2,pn2,w,_,_⟩:=ki;have c2:=c1.kb kb2 pn2;obtain⟨nl,xs,ds0,e0,es,b1,b2,g,r0⟩:=c2.sr.ow i _ e3 hi';cases e0;have hy:=w.int;subst hy;have em:af i σ h1=.ok (.loc nl) h1:=by simp[af,es]
   have nx:=pM c2 d hi' e3 es (xs':=xs.set n x) (ds':=ds.set n v) (r0.set n ((rx hz).mv (kb2.mv c.pO)));refine⟨σ,h2.set nl (.lst (xs.set n x)),?_,nx.after ((kb1.trans kb2).stp c)⟩;have e5:jd (.loc nl) (.int j) x h2=some (h2.set nl (.lst (xs.set n x))):=by
    simp only[jd,g];rw[r0.length,e4];rfl
   have e6:gSb (af i) ix.m x σ h1=.nx σ (h2.set nl (.lst (xs.set n x))):=by
    simp only[gSb,mEx,em,f2,e5]
   unfold gO mEx;rw[f1];dsimp only;rw[e6]
def PS.fin(r:PS):PR D:=match r with
 | .nx _ s=>.ok .non s
 | .rt d s=>.ok d s
 | .exc c _ s=>.exc c s
 | .rse c _ s=>.exc c s
 | _=>.bad
@[simp] theorem fin_nx:(PS.nx e s).fin=.ok .non s:=rfl
@[simp] theorem dy:(PS.rt d s).fin=.ok d s:=rfl
@[simp] theorem fin_exc:(PS.exc c e s).fin=.exc c s:=rfl
@[simp] theorem fin_rse:(PS.rse c e s).fin=.exc c s:=rfl
@[simp] theorem fin_bad:PS.bad.fin=.bad:=rfl
def dSt(n:Nat)(ds:List D):aq:=ds.map some++List.replicate (n - ds.length) none
def cZ(n np:Nat)(b:Xd ws)(hw:ws.all (fun i=>decide (np<=i))=true:=by exact ys rfl):Fn where
 m:=bp n np b.m
 p:=fun ds s=>if ds.length=np then (b.p (dSt n ds) s).fin else .bad
 fr:=b.fr
 ok {q h O vs ds s} bd hq pn r:=by
  by_cases hl:ds.length=np
  ·rw[qaf hl];have hv:vs.length=np:=by rw[r.length];exact hl
   have low:∀i d,(dSt n ds)[i]?=some (some d)->i<np/\ds[i]?=some d:=fun i d e=>by
    by_cases z:i<ds.length
    ·refine⟨by omega,?_⟩;unfold dSt at e;rw[qaj (by simpa using z)] at e;simp at e;simpa using e
    ·unfold dSt at e;rw[qau (by simpa using z)] at e;by_cases y:i - (ds.map some).length<n - ds.length
     ·simp[qbc,y] at e
     ·simp at y e;exact absurd e (by simp[qbc])
   have nw:∀i d,(dSt n ds)[i]?=some (some d)->i∉ws:=fun i d e hi=>by
    have:=(low i d e).1
    rw[qbE] at hw
    have:=hw i hi
    simp at this;omega
   have c:Cx q h h.length O O ws (bv n vs) (dSt n ds) s:=by
    refine⟨bd,fun _ h=>h,bd,hq,qag _,pn,⟨by simp[bv,dSt,r.length],fun i d e _=>?_,fun i d e hi=>absurd hi (nw i d e)⟩⟩;obtain⟨v,ev,rv⟩:=r.get (low i d e).2;refine⟨v,?_,rv⟩;unfold bv;rw[qaj (by simpa using (qab.mp ev).1)];simp[ev]
   have k:=b.ok c fun i j hi _ _ d _ _ e=>absurd hi (nw i d e)
   have em:bp n np b.m vs h=(match b.m (bv n vs) h with
    | .nx _ h'=>.ok .non h'
    | .rt v h'=>.ok v h'
    | .exc x _ h'=>.exc x h'
    | .rse x _ h'=>.exc x h'
    | _=>.bad):=by unfold bp;(rw[qaf hv]) <;> (cases b.m (bv n vs) h <;> rfl)
   rw[em];have kb:∀{h' O'},Stp q h.length h O h' O'->KB q h h':=fun st=>⟨st.len,fun m hm hq=>st.base m hm hq⟩
   cases e:b.p (dSt n ds) s with
   | nx e1 s1=>rw[e] at k;obtain⟨σ',h',f,O',st,c',_⟩:=k;rw[f];exact⟨.non,h',rfl,kb st,c'.pen,rfl,fun _ ds e=>by cases e⟩
   | exc x e1 s1=>rw[e] at k;obtain⟨σ',h',f,O',st,c',_⟩:=k;rw[f];exact⟨h',rfl,kb st,c'.pen⟩
   | rse x e1 s1=>rw[e] at k;obtain⟨σ',h',f,O',st,c',_⟩:=k;rw[f];exact⟨h',rfl,kb st,c'.pen⟩
   | rt x s1=>rw[e] at k;obtain⟨v,h',f,l,b,p,rr,rs⟩:=k;rw[f];exact⟨v,h',rfl,⟨l,b⟩,p,rr,rs⟩
   | bk e1 s1=>trivial
   | ct e1 s1=>trivial
   | bad=>trivial
  ·rw[qai hl];trivial
end
end PU
namespace PU
open PySem MM SetT SortT
open L2 (ixN atI fe)
noncomputable local instance (priority:=1) cdecN6 (p:Prop):Decidable p:=Classical.propDecidable p
noncomputable section
section
variable {q:Nat} {h:MH} {L:Nat} {O:List Nat} {v:PV}
theorem Vw.non(w:Vw q h L O .non v):v=.non:=by
 rcases w with r|⟨n,xs,ds,e,_⟩
 ·exact r
 ·cases e
theorem Vw.str(w:Vw q h L O (.str x) v):v=.str x:=by
 rcases w with r|⟨n,xs,ds,e,_⟩
 ·exact r
 ·cases e
inductive VwL (h:MH) (P:List PV->Prop) (v:PV):Prop
 | mk (n:Nat) (xs:List PV) (e:v=.loc n) (g:h[n]?=some (.lst xs)) (r:P xs):VwL h P v
theorem Vw.lst(w:Vw q h L O (.lst ds) v):VwL h (Rps q h O ds) v:=by
 rcases w with ⟨n,xs,e,_,g,r⟩|⟨n,xs,ds',e,e1,_,_,g,r⟩
 ·exact⟨n,xs,e,g,r⟩
 ·cases e;exact⟨n,xs,e1,g,r⟩
theorem Vw.tup(w:Vw q h L O (.tup ds) v):RcT (Rps q h O ds) v:=by
 rcases w with r|⟨n,xs,ds',e,_⟩
 ·exact r
 ·cases e
theorem gv0(r:Rp q h O d v)(hf:fr=true->∀ds,d≠.lst ds):Gv q h O fr (.ok v h) d :=
 ⟨v,[],by simp,by simpa using r,fun z ds e=>absurd e (hf z ds)⟩
theorem gvI:Gv q h O fr (.ok (.int i) h) (.int i):=gv0 rfl fun _ _ e=>by cases e
theorem gvB:Gv q h O fr (.ok (.bl i) h) (.bl i):=gv0 rfl fun _ _ e=>by cases e
theorem dA(w:Vws q h L O [d] vs):∃x,vs=[x]/\Vw q h L O d x:=by
 obtain⟨x,r,e,a,b⟩:=w
 have:r=[]:=b
 subst this;exact⟨x,e,a⟩
end
def iiOp(m:PV->PV->MH->Out PV)(f:Int->Int->D)(g:Int->Int->PV)(hm:∀i j h,m (.int i) (.int j) h=.ok (g i j) h)(hg:∀i j q h O fr,Gv q h O fr (.ok (g i j) h) (f i j)):Op2 where
 m:=m
 p:=fun a b=>match a,b with
  | .int i,.int j=>some (f i j)
  | _,_=>none
 fr:=true
 ok {q h L O a x b y d} bd wa wb e:=by
  cases a with
  | int i =>
   cases b with
   | int j=>cases e;rw[wa.int,wb.int,hm];exact hg i j q h O true
   | _=>cases e
  | _=>cases e
def g0:Op2:=iiOp opSub (fun i j=>.int (i - j)) (fun i j=>.int (i - j)) (fun _ _ _=>rfl) fun _ _ _ _ _ _=>gvI
def oLt:Op2:=iiOp opLt (fun i j=>.bl (decide (i<j))) (fun i j=>.bl (decide (i<j))) (fun _ _ _=>rfl) fun _ _ _ _ _ _=>gvB
def oLe:Op2:=iiOp opLe (fun i j=>.bl (decide (i<=j))) (fun i j=>.bl (decide (i<=j))) (fun _ _ _=>rfl) fun _ _ _ _ _ _=>gvB
def oGt:Op2:=iiOp opGt (fun i j=>.bl (decide (j<i))) (fun i j=>.bl (decide (j<i))) (fun _ _ _=>rfl) fun _ _ _ _ _ _=>gvB
def aW:Op2 where
 m:=opAdd
 p:=fun a b=>match a,b with
  | .int i,.int j=>some (.int (i+j))
  | .lst x,.lst y=>if x.length+y.length<=100000 then some (.lst (x++y)) else none
  | .tup (a::x),.tup y=>if x.length+1+y.length<=100000 then some (.tup (a::x++y)) else none
  | _,_=>none
 fr:=true
 ok {q h L O a x b y d} bd wa wb e:=by
  cases a with
  | int i =>
   cases b with
   | int j=>cases e;rw[wa.int,wb.int];exact gvI
   | _=>cases e
  | lst x =>
   cases b with
   | lst y =>
    dsimp only at e;by_cases z:x.length+y.length<=100000
    ·rw[qaf z] at e;cases e;obtain⟨n,xs,rfl,g,r⟩:=wa.lst;obtain⟨n',ys,rfl,g',r'⟩:=wb.lst;show Gv q h O true (match h[n]?,h[n']? with | some (.lst xs),some (.lst ys)=>newL (xs++ys) h | _,_=>.bad) _;rw[g,g'];exact kE bd (r.app r') (by simpa using z)
    ·rw[qai z] at e;cases e
   | _=>cases e
  | tup x =>
   cases x with
   | nil=>cases b <;> cases e
   | cons a x =>
    cases b with
    | tup y =>
     dsimp only at e;by_cases z:x.length+1+y.length<=100000
     ·rw[qaf z] at e;cases e;obtain⟨xs,rfl,r⟩:=wa.tup;obtain⟨ys,rfl,r'⟩:=wb.tup;have ne:xs≠[]:=fun z=>by have:=r.length;simp[z] at this
      show Gv q h O true (if xs≠[] then newT (xs++ys) h else .bad) _;rw[qaf ne];exact o9 (r.app r') (by simp;omega)
     ·rw[qai z] at e;cases e
    | _=>cases e
  | _=>cases e
def oIx:Op2 where
 m:=aY
 p:=fun a b=>match a,b with
  | .lst x,.int j=>atI x j
  | .tup x,.int j=>atI x j
  | _,_=>none
 fr:=false
 ok {q h L O a x b y d} bd wa wb e:=by
  have at':∀{ds:List D} {xs:List PV} {j:Int},Rps q h O ds xs->atI ds j=some d->∃v,atI xs j=some v/\Rp q h O d v:=fun {ds xs j} r e=>by
   unfold atI at e ⊢;rw[r.length]
   cases e1:ixN ds.length j with
   | none=>rw[e1] at e;cases e
   | some k=>rw[e1] at e;exact r.get e
  cases b with
  | int j =>
   rw[wb.int]
   cases a with
   | lst ds =>
    obtain⟨n,xs,rfl,g,r⟩:=wa.lst;obtain⟨v,e1,rv⟩:=at' r e;show Gv q h O false (match h[n]? with | some (.lst xs)=>(match atI xs j with | some v=>.ok v h | none=>.bad) | _=>.bad) _;rw[g];dsimp only;rw[e1];exact gv0 rv fun z=>by cases z
   | tup ds =>
    obtain⟨xs,rfl,r⟩:=wa.tup;obtain⟨v,e1,rv⟩:=at' r e;show Gv q h O false (match atI xs j with | some v=>.ok v h | none=>.bad) _;rw[e1];exact gv0 rv fun z=>by cases z
   | _=>cases e
  | _=>cases a <;> cases e
def oIs(neg:Bool):Op2 where
 m:=kK neg
 p:=fun a b=>match b with
  | .non=>(match a with
   | .non=>some (.bl (!neg))
   | _=>some (.bl neg))
  | .bl b=>(match a with
   | .bl c=>some (.bl (if neg then !(c == b) else c == b))
   | .non=>some (.bl neg)
   | .int _=>some (.bl neg)
   | .str _=>some (.bl neg)
   | .tup _=>some (.bl neg)
   | _=>none)
  | _=>none
 fr:=true
 ok {q h L O a x b y d} bd wa wb e:=by
  have loc:∀{a:D} {x:PV},Vw q h L O a x->(∃ds,a=.lst ds)\/a=.dic\/(∃c,a=.exc c)\/a=.pen->∃n,x=.loc n:=fun {a x} w z=>by
   rcases w with r|⟨n,xs,ds,e,e1,_⟩
   ·rcases z with ⟨ds,rfl⟩|rfl|⟨c,rfl⟩|rfl
    ·obtain⟨n,_,e,_⟩:=r;exact⟨n,e⟩
    ·obtain⟨n,e,_⟩:=r;exact⟨n,e⟩
    ·obtain⟨n,e,_⟩:=r;exact⟨n,e⟩
    ·exact⟨q,r⟩
   ·exact⟨n,e1⟩
  cases b with
  | non =>
   rw[wb.non]
   cases a with
   | non=>cases e;rw[wa.non];exact gvB
   | bl c=>cases e;rw[wa.bl];exact gvB
   | int c=>cases e;rw[wa.int];exact gvB
   | str c=>cases e;rw[wa.str];exact gvB
   | tup c=>cases e;obtain⟨xs,rfl,_⟩:=wa.tup;exact gvB
   | lst c=>cases e;obtain⟨n,rfl⟩:=loc wa (.inl ⟨_,rfl⟩);exact gvB
   | dic=>cases e;obtain⟨n,rfl⟩:=loc wa (.inr (.inl rfl));exact gvB
   | exc c=>cases e;obtain⟨n,rfl⟩:=loc wa (.inr (.inr (.inl ⟨_,rfl⟩)));exact gvB
   | pen=>cases e;obtain⟨n,rfl⟩:=loc wa (.inr (.inr (.inr rfl)));exact gvB
  | bl b =>
   rw[wb.bl]
   cases a with
   | non=>cases e;rw[wa.non];exact gvB
   | bl c=>cases e;rw[wa.bl];exact gvB
   | int c=>cases e;rw[wa.int];exact gvB
   | str c=>cases e;rw[wa.str];exact gvB
   | tup c=>cases e;obtain⟨xs,rfl,_⟩:=wa.tup;exact gvB
   | _=>cases e
  | _=>cases e
mutual
def py:D->Option PyData
 | .non=>some .none
 | .bl b=>some (.bool b)
 | .int i=>some (.int i)
 | .str x=>some (.str x)
 | .tup ds=>(pys ds).map .tuple
 | .lst ds=>(pys ds).map .list
 | _=>none
def pys:List D->Option (List PyData)
 | []=>some []
 | d::ds=>match py d,pys ds with
  | some x,some xs=>some (x::xs)
  | _,_=>none
end
mutual
def dep:D->Nat
 | .tup ds=>1+deps ds
 | .lst ds=>1+deps ds
 | _=>0
def deps:List D->Nat
 | []=>0
 | d::ds=>max (dep d) (deps ds)
end
theorem pW(d:D):(∀(v:PV) (e:PyData) (n:Nat),Rp q h O d v->py d=some e->dep d<=n->rd n h v=some e):=by
 refine D.rec (motive_1:=fun d=>∀(v:PV) (e:PyData) (n:Nat),Rp q h O d v->py d=some e->dep d<=n->rd n h v=some e)
  (motive_2:=fun ds=>∀(vs:List PV) (es:List PyData) (n:Nat),Rps q h O ds vs->pys ds=some es->deps ds<=n->bB (rd n h) vs=some es)
  (fun v _ n r e _=>?_) (fun b v _ n r e _=>?_) (fun b v _ n r e _=>?_) (fun b v _ n r e _=>?_) (fun ds ih v e n r ep hd=>?_) (fun ds ih v e n r ep hd=>?_) (fun _ _ _ _ e _=>?_) (fun _ _ _ _ _ e _=>?_) (fun _ _ _ _ e _=>?_)
  (fun vs es n r e _=>?_) (fun d ds i1 i2 vs es n r e hd=>?_) d
 ·rw[show v=PV.non from r];cases e;cases n <;> rfl
 ·rw[show v=PV.bl b from r];cases e;cases n <;> rfl
 ·rw[show v=PV.int b from r];cases e;cases n <;> rfl
 ·rw[show v=PV.str b from r];cases e;cases n <;> rfl
 ·obtain⟨xs,ex,r⟩:=r;subst ex;rw[py,qap] at ep;obtain⟨es,e1,rfl⟩:=ep;rw[dep] at hd
  cases n with
  | zero=>omega
  | succ n=>simp only[rd];rw[ih _ _ n r e1 (by omega)];rfl
 ·obtain⟨m,xs,ex,_,g,r⟩:=r;subst ex;rw[py,qap] at ep;obtain⟨es,e1,rfl⟩:=ep;rw[dep] at hd
  cases n with
  | zero=>omega
  | succ n=>simp only[rd,g];rw[ih _ _ n r e1 (by omega)];rfl
 ·simp[py] at e
 ·simp[py] at e
 ·simp[py] at e
 ·rw[show vs=[] from r];rw[pys] at e;cases e;rfl
 ·obtain⟨x,t,ex,a,b⟩:=r;subst ex;rw[deps] at hd;rw[pys] at e
  cases e1:py d with
  | none=>rw[e1] at e;cases e
  | some y =>
   cases e2:pys ds with
   | none=>rw[e1,e2] at e;cases e
   | some ys =>
    rw[e1,e2] at e;cases e;have a1:=i1 _ _ n a e1 (by omega);have b1:=i2 _ _ n b e2 (by omega);simp only[bB,a1,b1]
theorem rd_ok(r:Rp q h O d v)(ep:py d=some e)(hd:dep d<=n):rd n h v=some e:=pW d v e n r ep hd
theorem s0(r:Rps q h O ds vs)(ep:pys ds=some es)(hd:deps ds<=n):bB (rd n h) vs=some es:=by
 have:=pW (.tup ds) (.tup vs) (.tuple es) (n+1) (show Rp q h O (.tup ds) (.tup vs) from⟨vs,rfl,r⟩) (by rw[py,ep];rfl) (by rw[dep];omega)
 simp only[rd] at this
 cases z:bB (rd n h) vs with
 | none=>rw[z] at this;cases this
 | some y=>rw[z] at this;cases this;rfl
theorem ji(w:Vw q h L O d v)(ep:py d=some e)(hd:dep d<=60):rd 60 h v=some e:=by
 rcases w with r|⟨n,xs,ds,rfl,rfl,_,_,g,r⟩
 ·exact rd_ok r ep hd
 ·rw[py,qap] at ep;obtain⟨es,e1,rfl⟩:=ep;rw[dep] at hd;have a1:=s0 (n:=59) r e1 (by omega);show (match h[n]? with | some (.lst xs)=>(bB (rd 59 h) xs).map PyData.list | _=>none)=_;rw[g];dsimp only;rw[a1];rfl
def eqD(neg:Bool)(a b:D):Option D:=match py a,py b with
 | some x,some y=>if (dep a<=60/\dep b<=60)/\SeqAt.shaped x=true/\SeqAt.shaped y=true then some (.bl (if neg then !PyData.eqv x y else PyData.eqv x y)) else none
 | _,_=>none
theorem ib(e:eqD neg a b=some d):∃x y,py a=some x/\py b=some y/\(dep a<=60/\dep b<=60)/\(SeqAt.shaped x=true/\SeqAt.shaped y=true)/\d=.bl (if neg then !PyData.eqv x y else PyData.eqv x y):=by
 unfold eqD at e
 cases e1:py a with
 | none=>rw[e1] at e;cases e
 | some x =>
  cases e2:py b with
  | none=>rw[e1,e2] at e;cases e
  | some y =>
   rw[e1,e2] at e;dsimp only at e;by_cases z:(dep a<=60/\dep b<=60)/\SeqAt.shaped x=true/\SeqAt.shaped y=true
   ·rw[qaf z] at e;cases e;exact⟨x,y,rfl,rfl,z.1,z.2,rfl⟩
   ·rw[qai z] at e;cases e
def oEq:Op2 where
 m:=opEq
 p:=eqD false
 fr:=true
 ok {q h L O a x b y d} bd wa wb e:=by
  obtain⟨u,w,e1,e2,hd,hs,rfl⟩:=ib e;unfold opEq;rw[ji wa e1 hd.1,ji wb e2 hd.2];dsimp only;rw[qaf hs];exact gvB
def oNe:Op2 where
 m:=opNe
 p:=eqD true
 fr:=true
 ok {q h L O a x b y d} bd wa wb e:=by
  obtain⟨u,w,e1,e2,hd,hs,rfl⟩:=ib e;unfold opNe;rw[ji wa e1 hd.1,ji wb e2 hd.2];dsimp only;rw[qaf hs];exact gvB
theorem Vw.seqOf(w:Vw q h L O d v)(e:d.items=some ds):∃xs,MM.bL h v=some xs/\Rps q h O ds xs:=by
 cases d with
 | lst es=>cases e;obtain⟨n,xs,rfl,g,r⟩:=w.lst;exact⟨xs,by simp[MM.bL,g],r⟩
 | tup es=>cases e;obtain⟨xs,rfl,r⟩:=w.tup;exact⟨xs,rfl,r⟩
 | _=>cases e
def inD(neg:Bool)(a b:D):Option D:=match b.items with
 | some ds=>(match py a,pys ds with
  | some x,some ys=>if (dep a<=60/\deps ds<=60)/\x.canLay0=true/\PyData.canLayAll0 ys=true then some (.bl (if neg then !ys.any (fun e=>PyData.eqv e x) else ys.any (fun e=>PyData.eqv e x))) else none
  | _,_=>none)
 | none=>none
def oIn(neg:Bool):Op2 where
 m:=kh neg
 p:=inD neg
 fr:=true
 ok {q h L O a x b y d} bd wa wb e:=by
  unfold inD at e
  cases e0:b.items with
  | none=>rw[e0] at e;cases e
  | some ds =>
   rw[e0] at e;dsimp only at e
   cases e1:py a with
   | none=>rw[e1] at e;cases e
   | some u =>
    cases e2:pys ds with
    | none=>rw[e1,e2] at e;cases e
    | some us =>
     rw[e1,e2] at e;dsimp only at e;by_cases z:(dep a<=60/\deps ds<=60)/\u.canLay0=true/\PyData.canLayAll0 us=true
     ·rw[qaf z] at e;cases e;obtain⟨xs,es,r⟩:=wb.seqOf e0;unfold kh;rw[es,ji wa e1 z.1.1];dsimp only;rw[s0 r e2 z.1.2];dsimp only;rw[qaf z.2];exact gvB
     ·rw[qai z] at e;cases e
end
noncomputable section
def oNeg:Op1 where
 m:=opNeg
 p:=fun a=>match a with
  | .int i=>some (.int (-i))
  | _=>none
 fr:=true
 ok {q h L O a x d} bd w e:=by
  cases a with
  | int i=>cases e;rw[w.int];exact gvI
  | _=>cases e
def tyD:D->Option String
 | .non=>some "NoneType"
 | .bl _=>some "bool"
 | .int _=>some "int"
 | .str _=>some "str"
 | .tup _=>some "tuple"
 | .lst _=>some "list"
 | .dic=>some "dict"
 | _=>none
theorem ty_ok(w:Vw q h L O d v)(e:tyD d=some t):tyP h v=some t:=by
 cases d with
 | non=>cases e;rw[w.non];rfl
 | bl b=>cases e;rw[w.bl];rfl
 | int b=>cases e;rw[w.int];rfl
 | str b=>cases e;rw[w.str];rfl
 | tup b=>cases e;obtain⟨xs,rfl,_⟩:=w.tup;rfl
 | lst b=>cases e;obtain⟨n,xs,rfl,g,_⟩:=w.lst;simp[tyP,g]
 | dic =>
  cases e;rcases w with ⟨n,rfl,_,g⟩|⟨n,xs,ds,e,_⟩
  ·simp[tyP,g]
  ·cases e
 | _=>cases e
def gK(Ts:List String):Op1 where
 m:=gh Ts
 p:=fun a=>(tyD a).map fun t=>.bl (Ts.any (cz t))
 fr:=true
 ok {q h L O a x d} bd w e:=by
  rw[qap] at e;obtain⟨t,e1,rfl⟩:=e;unfold gh;rw[ty_ok w e1];exact gvB
def ic(cs sup:List Str):Op1 where
 m:=be cs sup
 p:=fun a=>match a with
  | .exc c=>if cs.contains c=true then some (.bl (sup.contains c)) else none
  | .pen=>none
  | _=>some (.bl false)
 fr:=true
 ok {q h L O a x d} bd w e:=by
  cases a with
  | non=>cases e;rw[w.non];exact gvB
  | bl b=>cases e;rw[w.bl];exact gvB
  | int b=>cases e;rw[w.int];exact gvB
  | str b=>cases e;rw[w.str];exact gvB
  | tup b=>cases e;obtain⟨xs,rfl,_⟩:=w.tup;exact gvB
  | lst b=>cases e;obtain⟨n,xs,rfl,g,_⟩:=w.lst;simp only[be,g];exact gvB
  | dic =>
   cases e;rcases w with ⟨n,rfl,_,g⟩|⟨n,xs,ds,e,_⟩
   ·simp only[be,g];exact gvB
   ·cases e
  | exc c =>
   dsimp only at e;by_cases z:cs.contains c=true
   ·rw[qaf z] at e;cases e;rcases w with ⟨n,rfl,_,g⟩|⟨n,xs,ds,e,_⟩
    ·simp only[be,g];rw[qaf z];exact gvB
    ·cases e
   ·rw[qai z] at e;cases e
  | pen=>cases e
def cInt:OpN where
 k:=fun xs h=>(fInt xs h).ne
 p:=fun as=>match as with
  | [.int i]=>some (.int i)
  | [.bl b]=>some (.int (if b then 1 else 0))
  | _=>none
 fr:=true
 ok {q h L O as xs d} bd w e:=by
  match as,e with
  | [.int i],e=>cases e;obtain⟨x,rfl,a⟩:=dA w;rw[a.int];exact gvI
  | [.bl i],e=>cases e;obtain⟨x,rfl,a⟩:=dA w;rw[a.bl];exact gvI
def fQ:OpN where
 k:=fun xs h=>(fLen xs h).ne
 p:=fun as=>match as with
  | [.lst ds]=>some (.int ds.length)
  | [.tup ds]=>some (.int ds.length)
  | [.str x]=>if x.length<=sizeLine then some (.int x.length) else none
  | _=>none
 fr:=true
 ok {q h L O as xs d} bd w e:=by
  match as,e with
  | [.lst ds],e =>
   cases e;obtain⟨x,rfl,a⟩:=dA w;obtain⟨n,ys,rfl,g,r⟩:=a.lst;simp only[fLen,g];rw[r.length];exact gvI
  | [.tup ds],e =>
   cases e;obtain⟨x,rfl,a⟩:=dA w;obtain⟨ys,rfl,r⟩:=a.tup;simp only[fLen];rw[r.length];exact gvI
  | [.str x],e =>
   dsimp only at e;by_cases z:x.length<=sizeLine
   ·rw[qaf z] at e;cases e;obtain⟨x,rfl,a⟩:=dA w;rw[a.str];simp only[fLen];rw[qaf z];exact gvI
   ·rw[qai z] at e;cases e
def eZ:OpN where
 k:=fun xs h=>(fList xs h).ne
 p:=fun as=>match as with
  | [d]=>d.items.bind fun ds=>if ds.length<=100000 then some (.lst ds) else none
  | _=>none
 fr:=true
 ok {q h L O as xs d} bd w e:=by
  match as,e with
  | [a],e =>
   obtain⟨x,rfl,wx⟩:=dA w;rw[qbq] at e;obtain⟨ds,e1,e2⟩:=e;obtain⟨xs,e3,r⟩:=wx.seqOf e1;by_cases z:ds.length<=100000
   ·rw[qaf z] at e2;cases e2;obtain⟨v,g,e4,r4,r5⟩:=kE bd r z;exact⟨v,g,by simp only[fList,e3];rw[e4];rfl,r4,r5⟩
   ·rw[qai z] at e2;cases e2
def m6:OpN where
 k:=fun xs h=>(fTuple xs h).ne
 p:=fun as=>match as with
  | [d]=>d.items.map .tup
  | _=>none
 fr:=true
 ok {q h L O as xs d} bd w e:=by
  match as,e with
  | [a],e =>
   obtain⟨x,rfl,wx⟩:=dA w;rw[qap] at e;obtain⟨ds,e1,rfl⟩:=e;obtain⟨xs,e3,r⟩:=wx.seqOf e1;simp only[fTuple,e3];exact gv0 ⟨xs,rfl,r⟩ fun _ _ e=>by cases e
def g8:List D->Option (List Bool)
 | []=>some []
 | .bl b::r=>(g8 r).map (b::·)
 | _=>none
theorem sT:∀{ds:List D} {xs:List PV} {bs:List Bool},Rps q h O ds xs->g8 ds=some bs->iW xs=some bs
 | [],_,_,r,e=>by rw[show _=[] from r];cases e;rfl
 | d::ds,_,bs,⟨x,t,ex,a,b⟩,e=>by
  subst ex
  cases d with
  | bl c =>
   rw[show x=PV.bl c from a];rw[g8,qap] at e;obtain⟨cs,e1,rfl⟩:=e;rw[iW,sT b e1];rfl
  | _=>cases e
def cAll:OpN where
 k:=fun xs h=>(fAll xs h).ne
 p:=fun as=>match as with
  | [d]=>(d.items.bind g8).map fun bs=>.bl (bs.all id)
  | _=>none
 fr:=true
 ok {q h L O as xs d} bd w e:=by
  match as,e with
  | [a],e =>
   obtain⟨x,rfl,wx⟩:=dA w;rw[qap] at e;obtain⟨bs,e1,rfl⟩:=e;rw[qbq] at e1;obtain⟨ds,e1,e2⟩:=e1;obtain⟨xs,e3,r⟩:=wx.seqOf e1;simp only[fAll,e3,qbU,sT r e2];exact gvB
def cH:List D->Option (List Int)
 | []=>some []
 | .int b::r=>(cH r).map (b::·)
 | _=>none
theorem gu:∀{ds:List D} {xs:List PV} {bs:List Int},Rps q h O ds xs->cH ds=some bs->xs=bs.map .int
 | [],_,_,r,e=>by rw[show _=[] from r];cases e;rfl
 | d::ds,_,bs,⟨x,t,ex,a,b⟩,e=>by
  subst ex
  cases d with
  | int c =>
   rw[show x=PV.int c from a];rw[cH,qap] at e;obtain⟨cs,e1,rfl⟩:=e;rw[gu b e1];rfl
  | _=>cases e
theorem lp:∀(bs:List Int),eX (bs.map .int)=some bs
 | []=>rfl
 | b::bs=>by rw[qaL,eX,lp bs];rfl
theorem gX:∀(bs:List Int),di (bs.map .int)=some bs
 | []=>rfl
 | b::bs=>by rw[qaL,di,gX bs];rfl
def kD(k:List Int):D:=.tup (k.map .int)
def kOfD:D->Option (List Int)
 | .tup ds=>cH ds
 | _=>none
def ij:List D->Option (List (List Int))
 | []=>some []
 | d::ds=>match kOfD d,ij ds with
  | some k,some ks=>some (k::ks)
  | _,_=>none
theorem kP_inv(r:Rp q h O d v)(e:kOfD d=some k):v=kP k:=by
 cases d with
 | tup ds=>obtain⟨xs,rfl,r⟩:=r;rw[gu r e];rfl
 | _=>cases e
theorem oq:∀{ds:List D} {xs:List PV} {ks:List (List Int)},Rps q h O ds xs->ij ds=some ks->xs=ks.map kP
 | [],_,_,r,e=>by rw[show _=[] from r];cases e;rfl
 | d::ds,_,ks,⟨x,t,ex,a,b⟩,e=>by
  subst ex;rw[ij] at e
  cases e1:kOfD d with
  | none=>rw[e1] at e;cases e
  | some k =>
   cases e2:ij ds with
   | none=>rw[e1,e2] at e;cases e
   | some ks' =>
    rw[e1,e2] at e;cases e;rw[kP_inv a e1,oq b e2];rfl
theorem kOf_kP(k:List Int):kOf (kP k)=some k:=lp k
theorem kX:∀(ks:List (List Int)),gN (ks.map kP)=some ks
 | []=>rfl
 | k::ks=>by rw[qaL,gN,kOf_kP,kX ks]
theorem d6:∀(bs:List Int),Rps q h O (bs.map .int) (bs.map .int)
 | []=>rfl
 | b::bs=>⟨_,_,rfl,rfl,d6 bs⟩
theorem mP:∀(ks:List (List Int)),Rps q h O (ks.map kD) (ks.map kP)
 | []=>rfl
 | b::bs=>⟨_,_,rfl,⟨_,rfl,d6 b⟩,mP bs⟩
theorem Vw.lstOf(w:Vw q h L O (.lst ds) v):∃xs,MM.eT h v=some xs/\Rps q h O ds xs:=by
 obtain⟨n,xs,rfl,g,r⟩:=w.lst;exact⟨xs,by simp[MM.eT,g],r⟩
theorem gvL(bd:Bd h O)(r:∀h O,Rps q h O ds xs):Gv q h O true (.ok (.loc h.length) (h++[.lst xs])) (.lst ds):=by
 have g:(h++[MO.lst xs])[h.length]?=some (.lst xs):=by simp
 exact⟨_,_,rfl,⟨_,_,rfl,fun z=>by have:=bd _ z;omega,g,r _ _⟩,fun _ ds' e=>by cases e;exact⟨_,_,rfl,qag _,g,r _ _⟩⟩
def lL(ds:List D):Option (List D):=match cH ds with
 | some ns=>if ns.length<64 then some ((cN ns).map .int) else none
 | none=>(match ij ds with
  | some ks=>if (∀k∈ks,k≠[])/\ks.length<=66 then some ((ff ks).map kD) else none
  | none=>none)
def pj:OpN where
 k:=fun xs h=>(fSorted xs h).ne
 p:=fun as=>match as with
  | [.lst ds]=>(lL ds).map .lst
  | _=>none
 fr:=true
 ok {q h L O as xs d} bd w e:=by
  match as,e with
  | [.lst ds],e =>
   obtain⟨x,rfl,wx⟩:=dA w;obtain⟨ys,e0,r⟩:=wx.lstOf;rw[qap] at e;obtain⟨es,e1,rfl⟩:=e;unfold lL at e1
   cases e2:cH ds with
   | some ns =>
    rw[e2] at e1;dsimp only at e1;by_cases z:ns.length<64
    ·rw[qaf z] at e1;cases e1
     have:fSorted [x] h=.ok (.loc h.length) (h++[.lst ((cN ns).map .int)]):=by
      simp only[fSorted,e0,gu r e2,gX];rw[qaf z]
     show Gv q h O true (fSorted [x] h).ne _;rw[this];exact gvL bd fun _ _=>d6 _
    ·rw[qai z] at e1;cases e1
   | none =>
    rw[e2] at e1;dsimp only at e1
    cases e3:ij ds with
    | none=>rw[e3] at e1;cases e1
    | some ks =>
     rw[e3] at e1;dsimp only at e1;by_cases z:(∀k∈ks,k≠[])/\ks.length<=66
     ·rw[qaf z] at e1;cases e1;have hy:=oq r e3
      cases ks with
      | nil =>
       have:ds=[]:=by have:=r.length;rw[hy] at this;simpa using this.symm
       subst this;cases e2
      | cons k ks =>
       have:fSorted [x] h=.ok (.loc h.length) (h++[.lst ((ff (k::ks)).map kP)]):=by
        have n1:di ((k::ks).map kP)=none:=rfl;simp only[fSorted,e0,hy,n1,kX];rw[qaf z]
       show Gv q h O true (fSorted [x] h).ne _;rw[this];exact gvL bd fun _ _=>mP _
     ·rw[qai z] at e1;cases e1
def dB(lo:Int)(n:Nat):List D:=(List.range n).map fun (i:Nat)=>D.int (lo+(i:Int))
theorem pT:Rps q h O (dB lo n) (bq lo n):=by
 have:=d6 (q:=q) (h:=h) (O:=O) ((List.range n).map fun (i:Nat)=>lo+(i:Int))
 rw[qbl,qbl] at this;exact this
def cLR:OpN where
 k:=fun vs h1=>match vs with
  | [.int j]=>if -(2 ^ 62)<=j/\j<2 ^ 62/\j.toNat<=sizeLine then .ok (.loc h1.length) (h1++[.lst (bq 0 j.toNat)]) else .bad
  | _=>.bad
 p:=fun as=>match as with
  | [.int j]=>if -100000<=j/\j<=100000 then some (.lst (dB 0 j.toNat)) else none
  | _=>none
 fr:=true
 ok {q h L O as xs d} bd w e:=by
  match as,e with
  | [.int j],e =>
   obtain⟨x,rfl,wx⟩:=dA w;rw[wx.int];dsimp only at e;by_cases z:-100000<=j/\j<=100000
   ·rw[qaf z] at e;cases e;dsimp only
    have:=cL
    rw[qaf ⟨by omega,by omega,by omega⟩];exact gvL bd fun _ _=>pT
   ·rw[qai z] at e;cases e
def iR1:OpI where
 k:=fun vs h1=>match vs with
  | [.int j]=>if -(2 ^ 62)<=j/\j<2 ^ 62 then .ok ⟨bq 0 j.toNat,[]⟩ h1 else .bad
  | _=>.bad
 p:=fun as=>match as with
  | [.int j]=>if -100000<=j/\j<=100000 then some (dB 0 j.toNat) else none
  | _=>none
 ok {q h L O as xs d} hq hO bd w e:=by
  match as,e with
  | [.int j],e =>
   obtain⟨x,rfl,wx⟩:=dA w;rw[wx.int];dsimp only at e;by_cases z:-100000<=j/\j<=100000
   ·rw[qaf z] at e;cases e;dsimp only;rw[qaf ⟨by omega,by omega⟩];exact⟨_,rfl,pT,(fun _ hg=>nomatch hg),fun _ _ hg=>nomatch hg⟩
   ·rw[qai z] at e;cases e
theorem Vw.sqAny(hq:q<L)(hO:q∈O)(w:Vw q h L O d v)(e:d.items=some ds):∃t xs gd,MM.dj v h=some (t,xs,gd)/\Rps q h O ds xs/\(∀g∈gd,h[g.1]?=some (.lst g.2)/\g.1≠q)/\(Rp q h O d v->∀g∈gd,g.1∉O):=by
 obtain⟨xs,gd,e1,r,g1,g2⟩:=w.seq hq hO e
 cases d with
 | lst es =>
  cases e;obtain⟨n,ys,rfl,g,r'⟩:=w.lst;simp only[itAny,g] at e1;cases e1;exact⟨false,xs,[(n,xs)],by simp[MM.dj,g],r',g1,g2⟩
 | tup es =>
  cases e;obtain⟨ys,rfl,r'⟩:=w.tup;simp only[itAny] at e1;cases e1;exact⟨true,_,[],rfl,r',g1,g2⟩
 | _=>cases e
def bP(ds:List D):List D:=ds.zipIdx.map fun p=>.tup [.int (p.2:Int),p.1]
theorem nH:∀{ds:List D} {xs:List PV} (n:Nat),Rps q h O ds xs->Rps q h O ((ds.zipIdx n).map fun p=>.tup [.int (p.2:Int),p.1]) ((xs.zipIdx n).map fun p=>.tup [.int (p.2:Int),p.1])
 | [],_,_,r=>by rw[show _=[] from r];rfl
 | d::ds,_,n,⟨x,t,e,a,b⟩=>by
  subst e;exact⟨_,_,rfl,⟨_,rfl,⟨_,_,rfl,rfl,⟨_,_,rfl,a,rfl⟩⟩⟩,nH (n+1) b⟩
def iE:OpI where
 k:=fun vs h1=>match vs with
  | [x]=>(match dj x h1 with
   | some (_,xs,gd)=>.ok ⟨eW xs,gd⟩ h1
   | none=>.bad)
  | _=>.bad
 p:=fun as=>match as with
  | [d]=>d.items.map bP
  | _=>none
 ok {q h L O as xs d} hq hO bd w e:=by
  match as,e with
  | [a],e =>
   obtain⟨x,rfl,wx⟩:=dA w;rw[qap] at e;obtain⟨ds,e1,rfl⟩:=e;obtain⟨t,ys,gd,e2,r,g1,g2⟩:=wx.sqAny hq hO e1;refine⟨⟨eW ys,gd⟩,by simp only[e2],nH 0 r,g1,fun z=>g2 ?_⟩;obtain⟨x',r',e3,a,_⟩:=z;cases e3;exact a
def cj(xs:List D)(lo hi:Option Int):List D:=(xs.drop (HT.sIx xs.length 0 lo)).take (HT.sIx xs.length xs.length hi - HT.sIx xs.length 0 lo)
theorem oO(lo hi:Option Int)(r:Rps q h O ds xs):Rps q h O (cj ds lo hi) (df xs lo hi):=by
 unfold cj df;rw[r.length];exact (r.drop _).take _
structure Xo (ws:List Nat) where
 m:Mx (Option Int)
 p:aq->Pen->PR (Option Int)
 ok:∀{q h L B O σ env s},Cx q h L B O ws σ env s->Ok q h (m σ h) (p env s) (fun _ a b=>a=b)
section
variable {ws:List Nat}
def xNo:Xo ws where
 m:=mNo
 p:=fun _ s=>.ok none s
 ok {q h L B O σ env s} c:=⟨none,h,rfl,KB.refl _ _,c.pen,rfl⟩
def xPt(e:Xe ws):Xo ws where
 m:=mPt e.m
 p:=fun env s=>(e.p env s).bind fun d s=>match d with
  | .int i=>.ok (some i) s
  | _=>.bad
 ok {q h L B O σ env s} c:=by
  refine (e.ok c).bind fun x v h1 s1 k1 p1 ⟨w,_,_⟩=>?_
  cases x with
  | int i=>rw[w.int];exact⟨some i,h1,rfl,KB.refl _ _,p1,rfl⟩
  | _=>trivial
def slD(d:D)(lo hi:Option Int):Option D:=match d with
 | .lst ds=>some (.lst (cj ds lo hi))
 | .tup ds=>if HT.sIx ds.length 0 lo=0/\HT.sIx ds.length ds.length hi=ds.length then none else some (.tup (cj ds lo hi))
 | _=>none
theorem sl_ok(bd:Bd h O)(w:Vw q h L O a x)(e:slD a lo hi=some d):Gv q h O true (fSl x lo hi h) d:=by
 cases a with
 | lst ds =>
  cases e;obtain⟨n,xs,rfl,g,r⟩:=w.lst;simp only[fSl,g];have r:=oO lo hi r;have m:Mv O h O (h++[MO.lst (df xs lo hi)]):=⟨fun n hn _=>qaj hn,fun o ho=>.inl ho⟩
  have m2:Mv O h (h.length::O) (h++[MO.lst (df xs lo hi)]):=⟨fun n hn _=>qaj hn,fun o ho=>by
   rcases qan.mp ho with z|z
   ·exact .inr (by omega)
   ·exact .inl z⟩
  have g:(h++[MO.lst (df xs lo hi)])[h.length]?=some (.lst (df xs lo hi)):=by simp
  exact⟨_,_,rfl,⟨_,_,rfl,fun z=>by have:=bd _ z;omega,g,r.mv m⟩,fun _ ds' e=>by cases e;exact⟨_,_,rfl,qag _,g,r.mv m2⟩⟩
 | tup ds =>
  unfold slD at e;dsimp only at e;by_cases z:HT.sIx ds.length 0 lo=0/\HT.sIx ds.length ds.length hi=ds.length
  ·rw[qaf z] at e;cases e
  ·rw[qai z] at e;cases e;obtain⟨xs,rfl,r⟩:=w.tup;simp only[fSl];rw[r.length,qai z];exact gv0 ⟨_,rfl,oO lo hi r⟩ fun _ _ e=>by cases e
 | _=>cases e
def xSl(a:Xe ws)(lo hi:Xo ws):Xe ws where
 m:=mSl a.m lo.m hi.m
 p:=fun env s=>(a.p env s).bind fun x s=>(lo.p env s).bind fun l s=>(hi.p env s).bind fun u s=>.of (slD x l u) s
 fz:=true
 fr:=true
 ok {q h L B O σ env s} c:=by
  refine (a.ok c).bind fun x v h1 s1 k1 p1 ⟨w,_,_⟩=>?_;have c1:=c.kb k1 p1;refine (lo.ok c1).bind fun l l' h2 s2 k2 p2 e=>?_;subst e;have c2:=c1.kb k2 p2;refine (hi.ok c2).bind fun u u' h3 s3 k3 p3 e=>?_;subst e;have c3:=c2.kb k3 p3
  cases e:slD x l u with
  | none=>trivial
  | some d =>
   obtain⟨y,g,e1,r,r'⟩:=sl_ok c3.bd ((w.kb k2 c.pO c.pL).kb k3 c.pO c.pL) e;exact give (qaA (qaA k1.len k2.len) k3.len) p3 ⟨y,g,by rw[e1];rfl,r,r'⟩
end
def kC:OpM where
 m:=fy
 p:=fun ds as=>match as with
  | [a]=>if ds.length<100000 then some (.non,ds++[a]) else none
  | _=>none
 ok {q h O n xs ds as vs d ds'} g r ra e:=by
  match as,e with
  | [a],e =>
   obtain⟨x,t,rfl,a,b⟩:=ra
   have:t=[]:=b
   subst this;dsimp only at e;by_cases z:ds.length<100000
   ·rw[qaf z] at e;cases e;refine⟨.non,xs++[x],?_,r.app ⟨x,[],rfl,a,rfl⟩,rfl⟩;simp only[fy,g];rw[qaf (by have:=cL;rw[r.length];omega)]
   ·rw[qai z] at e;cases e
def kl:OpM where
 m:=fJ
 p:=fun ds as=>match as with
  | [.int i,a]=>if (0<=i/\i<=100000)/\ds.length<100000 then some (.non,ds.take (min i.toNat ds.length)++a::ds.drop (min i.toNat ds.length)) else none
  | _=>none
 ok {q h O n xs ds as vs d ds'} g r ra e:=by
  match as,e with
  | [.int i,a],e =>
   obtain⟨x,t,rfl,hx,y,t',rfl,w,b⟩:=ra
   have:t'=[]:=b
   subst this;rw[show x=PV.int i from hx];dsimp only at e;by_cases z:(0<=i/\i<=100000)/\ds.length<100000
   ·rw[qaf z] at e;cases e;refine⟨.non,gT xs i y,?_,?_,rfl⟩
    ·simp only[fJ,g];rw[qaf ⟨by omega,by have:=cL;rw[r.length];omega⟩]
    ·unfold gT;rw[qai (by omega),r.length];exact (r.take _).app ⟨y,_,rfl,w,r.drop _⟩
   ·rw[qai z] at e;cases e
end
section
variable {ws:List Nat} {env:aq} {s:Pen}
@[simp] theorem aA{d:D}{r:aq}:(ac 0:Xe ws).p (some d::r) s=.ok d s:=rfl
@[simp] theorem az{i:Nat}{o:Option D}{r:aq}:(ac (i+1):Xe ws).p (o::r) s=(ac i:Xe ws).p r s:=by simp[ac]
theorem kI(e:env[i]?=some (some d)):(ac i:Xe ws).p env s=.ok d s:=by
 show (match env[i]? with | some (some d)=>PR.ok d s | _=>.bad)=_;rw[e]
@[simp] theorem bF:(xC k:Xe ws).p env s=.ok k.d s:=rfl
@[simp] theorem eD:Cn.non.d=.non:=rfl
@[simp] theorem cn_bl:(Cn.bl b).d=.bl b:=rfl
@[simp] theorem bA:(Cn.int b).d=.int b:=rfl
@[simp] theorem my:(Cn.str b).d=.str b:=rfl
@[simp] theorem aS:(ak o a b).p env s=(a.p env s).bind fun x s1=>(b.p env s1).bind fun y s2=>.of (o.p x y) s2:=rfl
@[simp] theorem lV:(xUn o a).p env s=(a.p env s).bind fun x s1=>.of (o.p x) s1:=rfl
@[simp] theorem aB:(xNil:Xs ws).p env s=.ok [] s:=rfl
@[simp] theorem aC:(ag a r).p env s=(a.p env s).bind fun x s1=>(r.p env s1).bind fun y s2=>.ok (x::y) s2:=rfl
@[simp] theorem cu:(xCb o a).p env s=(a.p env s).bind fun x s1=>.of (o.p x) s1:=rfl
@[simp] theorem aU:(aP f a h).p env s=(a.p env s).bind f.p:=rfl
@[simp] theorem cC:(bg a h).p env s=(a.p env s).bind fun x s1=>if x.length<=100000 then .ok (.lst x) s1 else .bad:=rfl
@[simp] theorem mT:(fR a h).p env s=(a.p env s).bind fun x s1=>if x.length<=100000 then .ok (.tup x) s1 else .bad:=rfl
@[simp] theorem xDic_p:(xDic:Xe ws).p env s=.ok .dic s:=rfl
@[simp] theorem ce:(xB a).p env s=(a.p env s).bl:=rfl
@[simp] theorem nc:(jb a).p env s=(a.p env s).bind fun b s=>.ok (!b) s:=rfl
@[simp] theorem jK:(lY a b).p env s=(a.p env s).bind fun x s=>if x=true then b.p env s else .ok false s:=rfl
@[simp] theorem xOr_p:(xOr a b).p env s=(a.p env s).bind fun x s=>if x=true then .ok true s else b.p env s:=rfl
@[simp] theorem xTrue_p:(xTrue:Xt ws).p env s=.ok true s:=rfl
@[simp] theorem xAndV_p:(qu a b).p env s=(a.p env s).bl.bind fun x s=>if x=true then (b.p env s).bl.bind fun y s=>.ok (.bl y) s else .ok (.bl false) s:=rfl
@[simp] theorem xNotV_p:(xNotV a).p env s=(a.p env s).bl.bind fun x s=>.ok (.bl (!x)) s:=rfl
@[simp] theorem xChain_p:(sA f g a b e).p env s=(a.p env s).bind fun x s1=>(b.p env s1).bind fun y s2=>match f.p x y with
  | some (.bl t)=>if t=true then (e.p env s2).bind fun z s3=>.of (g.p y z) s3 else .ok (.bl false) s2
  | _=>.bad:=rfl
@[simp] theorem nk:(kH o a).p env s=(a.p env s).bind fun x s1=>.of (o.p x) s1:=rfl
@[simp] theorem ng:(bW a).p env s=(a.p env s).bind fun x s1=>.of x.items s1:=rfl
@[simp] theorem xNm_p{i:Nat}{h:ws.contains i=false}{d:D}:(xNm i h).p d env=some (env.set i (some d)):=rfl
@[simp] theorem xGl_p:(xGl:Xgs ws).p [] env=some env:=rfl
@[simp] theorem xGc_p:(xGc a t).p (d::ds) env=(a.p d env).bind fun env1=>t.p ds env1:=rfl
@[simp] theorem xGp_p:(xGp t n).p (.tup ds) env=if ds.length=n then t.p ds env else none:=rfl
@[simp] theorem xComp_p{nv:Nat}{fm:List Nat}{i:Xi ws}{ws':List Nat}{g:Xg ws'}{t:Xt ws'}{e:Xe ws'}{hw:cws nv fm ws=ws'}{hz:e.fz=true}:(bN nv fm i g t e hw hz).p env s=(i.p env s).bind fun ds s1=>if ds.length<=100000 then (match dm g.p t.p e.p ds (cenv nv fm env) s1 with
  | .ok r s2=>.ok (.lst r) s2
  | _=>.bad) else .bad:=rfl
@[simp] theorem lS:(xNo:Xo ws).p env s=.ok none s:=rfl
@[simp] theorem lN:(xPt e).p env s=(e.p env s).bind fun d s=>match d with
  | .int i=>.ok (some i) s
  | _=>.bad:=rfl
@[simp] theorem lO:(xSl a lo hi).p env s=(a.p env s).bind fun x s=>(lo.p env s).bind fun l s=>(hi.p env s).bind fun u s=>.of (slD x l u) s:=rfl
@[simp] theorem aG:(aI a b).p env s=(a.p env s).then b.p:=rfl
@[simp] theorem cr:(xSkip:Xd ws).p env s=.nx env s:=rfl
@[simp] theorem fw:(bR e).p env s=(e.p env s).go env fun d _ s=>.rt d s:=rfl
theorem j8{i:Nat}{h:ws.contains i=true}{d:D}(e:env[i]?=some (some d)):(lP i h).p env s=.rt d s:=by
 show (match env[i]? with | some (some d)=>PS.rt d s | _=>.bad)=_;rw[e]
@[simp] theorem pF:(xDrop e).p env s=(e.p env s).go env fun _=>.nx:=rfl
@[simp] theorem cw:(xIf t a b).p env s=(t.p env s).go env fun x env s=>if x=true then a.p env s else b.p env s:=rfl
@[simp] theorem bo:(br i e hi hz).p env s=(e.p env s).go env fun d env s=>.nx (env.set i (some d)) s:=rfl
@[simp] theorem fF:(ip i e hi hz).p env s=(e.p env s).go env fun d env s=>match d with
  | .lst ds=>.nx (env.set i (some (.lst ds))) s
  | _=>.bad:=rfl
@[simp] theorem xRaise_p:(sU x a).p env s=(a.p env s).go env fun ds env s=>if ds.length<=100000 then .rse x env s else .bad:=rfl
@[simp] theorem jU:(m5 i g b hz).p env s=(i.p env s).go env fun ds env s=>pGo g.p b.p ds env s:=rfl
@[simp] theorem xMt_p:(xMt o i a hi hz).p env s=pMt o i a.p env s fun _=>.nx:=rfl
@[simp] theorem rL:(nt i e ix hi hz).p env s=cQ i e.p ix.p env s:=rfl
theorem bS{hw}(hl:ds.length=np):(cZ n np b hw).p ds s=(b.p (dSt n ds) s).fin:=by
 show (if ds.length=np then _ else _)=_;rw[qaf hl]
variable {i j:Int} {b:Bool} {x y:List D}
@[simp] theorem dU:aW.p (.int i) (.int j)=some (.int (i+j)):=rfl
theorem cS(h:x.length+y.length<=100000):aW.p (.lst x) (.lst y)=some (.lst (x++y)):=by
 show (if x.length+y.length<=100000 then _ else _)=_;rw[qaf h]
@[simp] theorem kn:g0.p (.int i) (.int j)=some (.int (i - j)):=rfl
@[simp] theorem nC:oLt.p (.int i) (.int j)=some (.bl (decide (i<j))):=rfl
@[simp] theorem oLe_ii:oLe.p (.int i) (.int j)=some (.bl (decide (i<=j))):=rfl
@[simp] theorem fC:oGt.p (.int i) (.int j)=some (.bl (decide (j<i))):=rfl
@[simp] theorem dJ:oIx.p (.lst x) (.int j)=atI x j:=rfl
@[simp] theorem oIx_t:oIx.p (.tup x) (.int j)=atI x j:=rfl
@[simp] theorem oIsi_p:(gK Ts).p d=(tyD d).map fun t=>.bl (Ts.any (cz t)):=rfl
@[simp] theorem ty_non:tyD .non=some "NoneType":=rfl
@[simp] theorem ty_bl:tyD (.bl b)=some "bool":=rfl
@[simp] theorem ty_int:tyD (.int i)=some "int":=rfl
@[simp] theorem ty_str:tyD (.str z)=some "str":=rfl
@[simp] theorem ty_tup:tyD (.tup x)=some "tuple":=rfl
@[simp] theorem ty_lst:tyD (.lst x)=some "list":=rfl
@[simp] theorem ty_dic:tyD .dic=some "dict":=rfl
@[simp] theorem cInt_b:cInt.p [.bl b]=some (.int (if b then 1 else 0)):=rfl
@[simp] theorem cInt_i:cInt.p [.int i]=some (.int i):=rfl
@[simp] theorem d3:fQ.p [.lst x]=some (.int x.length):=rfl
@[simp] theorem cLen_t:fQ.p [.tup x]=some (.int x.length):=rfl
theorem kv(h:x.length<=100000):eZ.p [.lst x]=some (.lst x):=by
 show (if x.length<=100000 then _ else _)=_;rw[qaf h]
@[simp] theorem tV:m6.p [.lst x]=some (.tup x):=rfl
@[simp] theorem cTuple_t:m6.p [.tup x]=some (.tup x):=rfl
theorem cLR_i(h:-100000<=i/\i<=100000):cLR.p [.int i]=some (.lst (dB 0 i.toNat)):=by
 show (if _ then _ else _)=_;rw[qaf h]
theorem iR1_i(h:-100000<=i/\i<=100000):iR1.p [.int i]=some (dB 0 i.toNat):=by
 show (if _ then _ else _)=_;rw[qaf h]
@[simp] theorem iE_l:iE.p [.lst x]=some (bP x):=rfl
@[simp] theorem lM:slD (.lst x) lo hi=some (.lst (cj x lo hi)):=rfl
theorem rn(h:x.length<100000):kC.p x [a]=some (.non,x++[a]):=by
 show (if _ then _ else _)=_;rw[qaf h]
theorem rD{a:D}{i:Nat}(h:i<=x.length)(hl:x.length<100000):kl.p x [.int i,a]=some (.non,x.take i++a::x.drop i):=by
 show (if _ then _ else _)=_;rw[qaf ⟨by omega,hl⟩,qaT,qcb h]
end
section
variable {i j:Int} {b c:Bool}
theorem eQ(h1:x.canLay0=true)(h2:x.depth<=64):SeqAt.shaped x=true:=by simp[SeqAt.shaped,h1,h2]
@[simp] theorem eqD_ii:eqD neg (.int i) (.int j)=some (.bl (if neg then !decide (i=j) else decide (i=j))):=by
 simp[eqD,py,dep,SeqAt.shaped,PyData.canLay0,PyData.depth,PyData.eqv,qbg]
@[simp] theorem eqD_bb:eqD neg (.bl b) (.bl c)=some (.bl (if neg then !(b == c) else b == c)):=by
 simp[eqD,py,dep,SeqAt.shaped,PyData.canLay0,PyData.depth,PyData.eqv]
@[simp] theorem oEq_p:oEq.p a d=eqD false a d:=rfl
@[simp] theorem lU:oNe.p a d=eqD true a d:=rfl
@[simp] theorem oIn_p:(oIn neg).p a d=inD neg a d:=rfl
theorem eK:∀(k:List Int),pys (k.map .int)=some (k.map .int)/\deps (k.map .int)=0
 | []=>⟨rfl,rfl⟩
 | i::k=>by
  obtain⟨a,b⟩:=eK k;simp[pys,py,a,deps,dep,b]
theorem lh:∀(xs:List Int),(xs.map PyData.int).any (fun e=>PyData.eqv e (.int x))=decide (x∈xs)
 | []=>by simp
 | y::ys=>by
  rw[qaL,qcv,lh ys]
  have:PyData.eqv (.int y) (.int x)=decide (x=y):=by
   simp[PyData.eqv,qbg,eq_comm]
  rw[this];by_cases z:x=y <;> simp[z]
theorem iQ:∀(k k':List Int),PyData.eqvAll (k.map .int) (k'.map .int)=decide (k=k')
 | [],[]=>by simp[PyData.eqvAll]
 | [],_::_=>by simp[PyData.eqvAll]
 | _::_,[]=>by simp[PyData.eqvAll]
 | a::k,b::k'=>by
  simp only[qaL,PyData.eqvAll,PyData.eqv,iQ k k',qbg];by_cases z:a=b <;> simp[z]
theorem rZ{neg:Bool}{x:Int}{d:D}{xs:List Int}(e:d.items=some (xs.map .int)):inD neg (.int x) d=some (.bl (if neg then !decide (x∈xs) else decide (x∈xs))):=by
 obtain⟨a,b⟩:=eK xs;simp only[inD,e,py,a];rw[qaf ⟨⟨by simp[dep],by omega⟩,rfl,(eB xs).1⟩,lh]
theorem d7{neg:Bool}{xs ys:List Int}:eqD neg (.lst (xs.map .int)) (.lst (ys.map .int))=some (.bl (if neg then !decide (xs=ys) else decide (xs=ys))):=by
 obtain⟨a,b⟩:=eK xs;obtain⟨c,d⟩:=eK ys;obtain⟨l1,l2⟩:=eB xs;obtain⟨l3,l4⟩:=eB ys;simp only[eqD,py,a,c,qbK];rw[qaf ⟨⟨by simp[dep,b],by simp[dep,d]⟩,eQ (by simpa [PyData.canLay0] using l1) (by simp only[PyData.depth];omega),eQ (by simpa [PyData.canLay0] using l3) (by simp only[PyData.depth];omega)⟩];simp only[PyData.eqv,iQ]
end
@[simp] theorem pGo_nil:pGo g b [] env s=.nx env s:=rfl
theorem nD(e:g d env=some env1):pGo g b (d::ds) env s=(b env1 s).turn (pGo g b ds):=by
 rw[pGo,e]
theorem ik(I:Nat->aq->Pen->Prop):∀(ds:List D) (j:Nat) (env:aq) (s:Pen),I j env s ->
  (∀m env s d,I (j+m) env s->ds[m]?=some d->∃env1 env' s',g d env=some env1/\b env1 s=.nx env' s'/\I (j+m+1) env' s')->∃env' s',pGo g b ds env s=.nx env' s'/\I (j+ds.length) env' s'
 | [],j,env,s,hI,_=>⟨env,s,rfl,hI⟩
 | d::ds,j,env,s,hI,st=>by
  obtain⟨env1,env2,s2,e1,e2,I2⟩:=st 0 env s d hI rfl;obtain⟨env3,s3,e3,I3⟩:=ik I ds (j+1) env2 s2 I2 fun m env' s' x q z=>by
   have:=st (m+1) env' s' x (by rw[show j+(m+1)=j+1+m by omega];exact q) (by simpa using z)
   rw[show j+(m+1)+1=j+1+m+1 by omega] at this;exact this
  refine⟨env3,s3,?_,by rw[qaM,show j+(ds.length+1)=j+1+ds.length by omega];exact I3⟩;rw[nD e1,e2];exact e3
theorem jm(p:D->Bool)(f:D->D):∀(ds:List D) (vs:aq),vs.length=nv ->
  (∀x∈ds,∀vs:aq,vs.length=nv->∃vs':aq,vs'.length=nv/\g x (vs++fr)=some (vs'++fr)/\t (vs'++fr) s=.ok (p x) s/\(p x=true->e (vs'++fr) s=.ok (f x) s))->dm g t e ds (vs++fr) s=.ok ((ds.filter p).map f) s
 | [],vs,hv,body=>rfl
 | x::ds,vs,hv,body=>by
  obtain⟨vs',hv',e1,e2,e3⟩:=body x (by simp) vs hv;have ih:=jm p f ds vs' hv' fun y hy=>body y (qak _ hy);rw[dm,e1];dsimp only;rw[e2]
  cases hp:p x with
  | true=>simp only[PR.bind_ok,if_true,e3 hp,ih,List.filter_cons_of_pos hp,qaL]
  | false=>simp only[PR.bind_ok,qam,if_false,ih,List.filter_cons_of_neg (show ¬p x=true by simp[hp])]
theorem jZ{ws ws':List Nat}{env:aq}{s:Pen}{nv:Nat}{fm:List Nat}{i:Xi ws}{g:Xg ws'}{t:Xt ws'}{e:Xe ws'}{hw:cws nv fm ws=ws'}{hz:e.fz=true}{ds:List D}(p:D->Bool)(f:D->D)(ei:i.p env s=.ok ds s)(hl:ds.length<=100000)
  (body:∀x∈ds,∀vs:aq,vs.length=nv->∃vs':aq,vs'.length=nv/\g.p x (vs++fm.map fun i=>(env[i]?).getD none)=some (vs'++fm.map fun i=>(env[i]?).getD none)/\t.p (vs'++fm.map fun i=>(env[i]?).getD none) s=.ok (p x) s/\(p x=true->e.p (vs'++fm.map fun i=>(env[i]?).getD none) s=.ok (f x) s)) :
  (bN nv fm i g t e hw hz).p env s=.ok (.lst ((ds.filter p).map f)) s:=by
 rw[xComp_p,ei,PR.bind_ok,qaf hl];unfold cenv;rw[jm p f ds _ (by simp) body]
theorem jN{ws ws':List Nat}{env:aq}{s:Pen}{fm:List Nat}{i:Xi ws}{t:Xt ws'}{e:Xe ws'}{ds:List D}(p:D->Bool)(f:D->D)(ei:i.p env s=.ok ds s)(hl:ds.length<=100000)
  (body:∀x∈ds,t.p (some x::fm.map fun i=>(env[i]?).getD none) s=.ok (p x) s/\(p x=true->e.p (some x::fm.map fun i=>(env[i]?).getD none) s=.ok (f x) s)) (h0:ws'.contains 0=false:=by exact ys rfl) (hw:cws 1 fm ws=ws':=by exact ys rfl) (hz:e.fz=true:=by exact ys rfl) :
  (bN 1 fm i (xNm 0 h0) t e hw hz).p env s=.ok (.lst ((ds.filter p).map f)) s :=
 jZ p f ei hl fun x hx vs hv=>match vs,hv with
  | [_],_=>⟨[some x],rfl,rfl,body x hx⟩
theorem comp2{ws ws':List Nat}{env:aq}{s:Pen}{fm:List Nat}{i:Xi ws}{t:Xt ws'}{e:Xe ws'}{ds:List D}(p:D->Bool)(f:D->D)(ei:i.p env s=.ok ds s)(hl:ds.length<=100000)
  (body:∀x∈ds,∃a b,x=.tup [a,b]/\t.p (some a::some b::fm.map fun i=>(env[i]?).getD none) s=.ok (p x) s/\(p x=true->e.p (some a::some b::fm.map fun i=>(env[i]?).getD none) s=.ok (f x) s)) (h0:ws'.contains 0=false:=by exact ys rfl) (h1:ws'.contains 1=false:=by exact ys rfl) (hw:cws 2 fm ws=ws':=by exact ys rfl) (hz:e.fz=true:=by exact ys rfl) :
  (bN 2 fm i (xGp (xGc (xNm 0 h0) (xGc (xNm 1 h1) xGl)) 2) t e hw hz).p env s=.ok (.lst ((ds.filter p).map f)) s :=
 jZ p f ei hl fun x hx vs hv=>match vs,hv with
  | [_,_],_=>let ⟨a,b,e,q⟩:=body x hx;⟨[some a,some b],rfl,by subst e;rfl,q⟩
end PU
namespace PU
open PySem MM SetT SortT
open L2 (ixN atI fe)
theorem eV{α:Type}(l:List α):(l.filter fun _=>true)=l:=List.filter_eq_self.mpr (by simp)
structure WebT (n:Int) (ks:List (List Int)):Prop where
 n0:0<=n
 n12:n<=12
 tie:∀k∈ks,∃a b:Int,k=[a,b]/\0<=a/\a<b/\b<n
 ris:SortT.Ris ks
 nd:ks.Nodup
def upto(n:Nat):List Int:=(List.range n).map fun (i:Nat)=>(i:Int)
theorem cO:i∈upto n↔0<=i/\i<n:=by
 unfold upto;rw[qbb];constructor
 ·rintro⟨k,hk,rfl⟩;rw[qbu] at hk;omega
 ·intro ⟨a,b⟩;exact⟨i.toNat,by rw[qbu];omega,by omega⟩
theorem bZ(h:0<=i):∃n:Nat,i=(n:Int):=⟨i.toNat,by omega⟩
end PU
namespace PU
open PySem MM SetT SortT
open L2 (ixN atI fe)
noncomputable local instance (priority:=1) cdecN10 (p:Prop):Decidable p:=Classical.propDecidable p
noncomputable section
def truD:D->Option Bool
 | .non=>some false
 | .bl b=>some b
 | .int i=>some (i != 0)
 | .tup xs=>some (!xs.isEmpty)
 | .lst xs=>some (!xs.isEmpty)
 | _=>none
theorem Rps.empty(r:Rps p h O ds vs):vs.isEmpty=ds.isEmpty:=by
 cases ds with
 | nil=>rw[show vs=[] from r];rfl
 | cons d ds=>obtain⟨x,t,e,_⟩:=r;rw[e];rfl
theorem mz(w:Vw q h L O d v)(e:truD d=some b):ja h v=some b:=by
 cases d with
 | non=>cases e;rw[w.non];rfl
 | bl c=>cases e;rw[w.bl];rfl
 | int c=>cases e;rw[w.int];rfl
 | tup c=>cases e;obtain⟨xs,rfl,r⟩:=w.tup;rw[ja,r.empty]
 | lst c=>cases e;obtain⟨n,xs,rfl,g,r⟩:=w.lst;simp only[ja,g];rw[r.empty]
 | _=>cases e
section
variable {ws:List Nat}
def xTr(a:Xe ws):Xt ws where
 m:=mTr a.m
 p:=fun env s=>(a.p env s).bind fun d s=>.of (truD d) s
 ok {q h L B O σ env s} c:=by
  refine (a.ok c).bind fun x v h1 s1 k1 p1 ⟨w,_,_⟩=>?_
  cases e:truD x with
  | none=>trivial
  | some b=>rw[mz w e];exact⟨b,h1,rfl,KB.refl _ _,p1,rfl⟩
structure OpR where
 m:Nat->List PV->MH->Out PV
 p:List D->List D->Option D
 ok:∀{q:Nat} {h:MH} {L:Nat} {O:List Nat} {n:Nat} {xs:List PV} {ds as:List D} {vs:List PV} {d:D},h[n]?=some (.lst xs)->Rps q h O ds xs->Vws q h L O as vs->p ds as=some d->∃v,m n vs h=.ok v h/\Rp q h O d v/\∀es,d≠.lst es
end
def oN:OpM where
 m:=fG
 p:=fun ds as=>match as with
  | [.int k]=>(cH ds).bind fun ns=>(fg k ns).map fun j=>(.non,(ns.eraseIdx j).map .int)
  | _=>none
 ok {q h O n xs ds as vs d ds'} g r ra e:=by
  match as,e with
  | [.int k],e =>
   obtain⟨x,t,rfl,hx,b⟩:=ra
   have:t=[]:=b
   subst this;rw[show x=PV.int k from hx];rw[qbq] at e;obtain⟨ns,e1,e2⟩:=e;rw[qap] at e2;obtain⟨j,e3,e4⟩:=e2;cases e4;refine⟨.non,(ns.eraseIdx j).map .int,?_,d6 _,rfl⟩;simp only[fG,g,gu r e1,gX,e3]
section
variable {ws:List Nat} {env:aq} {s:Pen}
@[simp] theorem xTr_p:(xTr a).p env s=(a.p env s).bind fun d s=>.of (truD d) s:=rfl
end
end
noncomputable section
section
variable {ws:List Nat}
variable {env:aq} {s:Pen}
end
end
noncomputable section
variable {ws:List Nat}
end
end PU
namespace MM
open PySem PySem.Spec PyProof.Rows L2
end MM
namespace PU
open PySem MM
end PU
namespace MM
open PySem PySem.Spec PyProof.Rows L2
abbrev CPm(scope sc:Scope)(vars frees:List Str):Prop:=(∀y∈scope.names,y.2=.cell->scope.names.lookup y.1=some .cell)/\(∀y∈scope.names,y.2=.local->scope.names.lookup y.1=some .local)/\(∀x∈vars,scope.names.lookup x=some .local\/scope.names.lookup x=some .cell)/\(∀x∈frees,scope.names.lookup x=some .free)/\(∀y∈scope.names,y.2=.free->y.1∈frees)/\(∀x∈frees,sc.names.lookup x=some .cell)
def rlb(scope sc:Scope):Scope:={ scope with names:=scope.names.map fun (n,k)=>if (k == .free && sc.kind == .function && sc.names.lookup n == some .cell) then (n,.cell) else (n,k)}
theorem rlb_eq{scope sc:Scope}{env:Env}(h:env.scope=sc):relabel scope env=rlb scope sc:=by subst h;rfl
theorem j5{X:Cx}{N:List Str}{scope sc:Scope}{vars frees:List Str}{fm:List Nat}(hsc:X.env.scope=sc)(h1:scope.kind=.function)(h7:fm.map (fun i=>N[i]?)=frees.map some)(h:CPm scope sc vars frees):CompOk X N scope vars frees fm :=
 compOk hsc h1 h.1 h.2.1 h.2.2.1 h.2.2.2.1 h.2.2.2.2.1 h7 h.2.2.2.2.2
theorem ar1{Q:List Value->Prop}(h:∀a0,Q [a0]):∀us,us.length=1->Q us
 | [_],_=>h _
theorem ar2{Q:List Value->Prop}(h:∀a0 a1,Q [a0,a1]):∀us,us.length=2->Q us
 | [_,_],_=>h _ _
abbrev Zn(K:qaa)(x:Str):Prop:=PySem.W.nsIn K mainGlobals x=some none
abbrev Nn(X:Cx)(x:Str):Prop:=X.mg x=none
abbrev Sc(X:Cx)(s:Stmt):Prop:=X.env.scope=aD s
abbrev Gd(X:Cx)(N G:List Str)(k:Nat):Prop:=Good X N N G k
structure Ba (P:Program) (w:World) (K:qaa) (mg:Str->Option Value) (base:Heap):Prop where
 kin:K.In base
 ns:base.Ns mainGlobals mg
structure EE (X:Cx) (P:Program) (w:World) (K:qaa) (mg:Str->Option Value) (base:Heap):Prop where
 e1:X.prog=P
 e2:X.w=w
 e3:X.K=K
 e4:X.mg=mg
 e5:X.base=base
 b:Ba P w K mg base
section
variable {P:Program} {w:World} {K:qaa} {mg:Str→Option Value} {base:Heap} {X:Cx}
theorem EE.n(e:EE X P w K mg base){x:Str}(z:Zn K x):Nn X x:=by
 show X.mg x=none;rw[e.e4];exact PySem.W.mg_none_of e.b.kin e.b.ns z
theorem FnAt.c{x:Str}{ps:List Str}{F:List PV->MH->Out PV}{i j:Nat}(a:FnAt P w K mg base x ps F i)(e:EE X P w K mg base)(h:i<=j:=by decide):Cal X x ps F j :=
 (a.mono h).cal e.e1 e.e2 e.e3 e.e4 e.e5
theorem fnN{x:Str}{st:Stmt}{N G ps:List Str}{m:Mst}{k:Nat}(b:Ba P w K mg base)(D:DefAt K x st)(hb:∀X:Cx,EE X P w K mg base->Sc X st->Gd X N G k->DefCx X->MSs X (aN st) m)
  (B:ie x st ps:=by first | exact fun _ _ _ _ _ _=>ar1 fun _=>rfl | exact fun _ _ _ _ _ _=>ar2 fun _ _=>rfl | exact fun _ _ _ _ _ _=>ar3 fun _ _ _=>rfl | exact fun _ _ _ _ _ _=>ar4 fun _ _ _ _=>rfl | exact fun _ _ _ _ _ _=>ar5 fun _ _ _ _ _=>rfl)
  (S:FnScope N ps (aD st):=by exact⟨rfl,rfl,rfl,by decide +kernel,rfl,by decide +kernel,by decide +kernel⟩)
  (hl:∀y∈N,(aD st).names.lookup y=some .local\/(aD st).names.lookup y=some .cell:=by decide +kernel) (hgl:∀y∈G,(aD st).names.lookup y=some .globalImplicit:=by decide +kernel)
  (dbg:∀x∈N++G,(x == ("__debug__":Str))=false/\(x == ("__classdict__":Str))=false/\x≠"__name__":=by decide +kernel) :
  FnAt P w K mg base x ps (bp N.length ps.length m) (k+1) :=
 fnAt_M b.kin b.ns D S B hl hgl dbg fun X e1 e2 e3 e4 e5 e6 g dc=>hb X ⟨e1,e2,e3,e4,e5,b⟩ e6 g dc
end
structure YE (Y X:Cx):Prop where
 e1:Y.prog=X.prog
 e2:Y.w=X.w
 e3:Y.K=X.K
 e4:Y.mg=X.mg
 e5:Y.base=X.base
section
variable {X Y:Cx} {N W G:List Str} {k:Nat} {x:Str} {p pos:Pos} {e:Expr} {es:List Expr} {m:Mx (List PV)} {f:List PV→MH→Out PV}
theorem YE.n(y:YE Y X)(h:X.mg x=none):Y.mg x=none:=y.e4.symm▸h
theorem YE.c(y:YE Y X){ps:List Str}{F:List PV->MH->Out PV}{i:Nat}(c:Cal X x ps F i):Cal Y x ps F i:=c.at y.e1 y.e2 y.e3 y.e4 y.e5
theorem kV(g:Good X N W G k)(i:Nat)(hi:N[i]?=some x:=by rfl):ME X (.Name x pos) (af i):=me_var g i hi
theorem kNm(g:Good X N W G k)(i:Nat)(hi:N[i]?=some x:=by rfl)(hw:W[i]?=some x:=by rfl):MG X (.Name x pos) (gNm i):=mg_name g i hi hw
theorem kSt(g:Good X N W G k)(i:Nat){e:Expr}{m:Mx PV}{pos':Pos}(he:ME X e m)(hi:N[i]?=some x:=by rfl)(hw:W[i]?=some x:=by rfl)(hs:swapsWith e (some (.Name x pos')) pos.line X.env=pure false:=by rfl) :
  MS X (.Assign [.Name x pos'] e pos) (aO i m):=ms_set g i hi hw he hs
theorem kIx{a b:Expr}{ma mb:Mx PV}(ha:ME X a ma)(hb:ME X b mb)(hs:kA b:=by exact fun _ _=>rfl):ME X (.Subscript a b pos) (ai aY ma mb):=me_ix ha hb hs
theorem kCm{op:CmpOp}{f:PV->PV->MH->Out PV}{a b:Expr}{ma mb:Mx PV}(ho:OpJ X (compareOp op) f)(ha:ME X a ma)(hb:ME X b mb)(hm:behindInMarks op b=false:=by first | exact nomark _ | rfl):ME X (.Compare a [op] [b] pos) (ai f ma mb):=me_cmp ho ha hb hm
theorem kTc{op:CmpOp}{f:PV->PV->MH->Out PV}{a b:Expr}{ma mb:Mx PV}(ho:OpJ X (compareOp op) f)(ha:ME X a ma)(hb:ME X b mb)(hm:behindInMarks op b=false:=by first | exact nomark _ | rfl):MT X (.Compare a [op] [b] pos) (mB (ai f ma mb)):=mt_cmp ho ha hb hm
theorem kCa(g:Good X N W G k)(j:Nat){ps:List Str}{F:List PV->MH->Out PV}(C:Cal X x ps F k)(ha:MA X (e::es) m)(hj:G[j]?=some x:=by rfl)
  (he:starEach (e::es) X.env=(false,eval e X.env)::starEach es X.env:=by rfl) (hpl:(backTo pos (starEach es X.env)).any (·.1)=false:=by rfl):ME X (.Call (.Name x p) (e::es) [] pos) (aR F m):=me_call g hj C ha he hpl
theorem kCb{id:String}(g:Good X N W G k)(j:Nat)(hc:bY X (.builtin id) f)(hm:X.mg x=none)(hv:bootBuiltins x=some (.builtin id))(ha:MA X (e::es) m)(hj:G[j]?=some x:=by rfl)
  (he:starEach (e::es) X.env=(false,eval e X.env)::starEach es X.env:=by rfl) (hpl:(backTo pos (starEach es X.env)).any (·.1)=false:=by rfl):ME X (.Call (.Name x p) (e::es) [] pos) (mCB f m):=uu g j hj hc hm hv ha he hpl
theorem kCt{T:String}(g:Good X N W G k)(j:Nat)(hc:bY X (.type T) f)(hm:X.mg x=none)(hv:bootBuiltins x=some (.type T))(ha:MA X (e::es) m)(hj:G[j]?=some x:=by rfl)
  (he:starEach (e::es) X.env=(false,eval e X.env)::starEach es X.env:=by rfl) (hpl:(backTo pos (starEach es X.env)).any (·.1)=false:=by rfl):ME X (.Call (.Name x p) (e::es) [] pos) (mCB f m):=sI g j hj hc hm hv ha he hpl
theorem kR1{tg a:Expr}(g:Good X N W G k)(j:Nat)(hm:X.mg "range"=none)(ha:MA X [a] m)(hj:G[j]?=some "range":=by rfl)(hs:starEach [a] X.env=[(false,eval a X.env)]:=by rfl):MI X tg (.Call (.Name "range" p) [a] [] pos) (gc m):=sL (g.gl _ (aw hj)) hm ha hs
theorem kEn{elts:List Expr}{x1:Nat}{tp:Pos}{a:Expr}(g:Good X N W G k)(j:Nat)(hm:X.mg "enumerate"=none)(ha:MA X [a] m)(hj:G[j]?=some (("enumerate":String):Str):=by rfl)(hs:starEach [a] X.env=[(false,eval a X.env)]:=by rfl):MI X (.Tuple elts x1 tp) (.Call (.Name "enumerate" p) [a] [] pos) (nr m):=mi_enum g hj hm ha hs
section
variable {tg iter elt:Expr} {ifs:List Expr} {scope sc:Scope} {mi:Mx MIt} {gt:Mg} {mt:Mx Bool} {me:Mx PV}
theorem kCp(g:Good X N W G k)(hsc:X.env.scope=sc)(vars frees G':List Str)(fm:List Nat)(hi:MI X tg iter mi)(hY:∀Y:Cx,YE Y X->Good Y (vars++frees) vars G' k->MG Y tg gt/\MTs Y ifs mt/\ME Y elt me)
  (h1:scope.kind=.function:=by rfl) (h7:fm.map (fun i=>N[i]?)=frees.map some:=by rfl) (h:CPm scope sc vars frees:=by decide +kernel)
  (nd:(vars++frees).Nodup:=by decide +kernel) (hgl:∀x∈G',scope.names.lookup x=some .globalImplicit:=by decide +kernel) (dbg:∀x∈(vars++frees)++G',(x == ("__debug__":Str))=false/\(x == ("__classdict__":Str))=false/\x≠"__name__":=by decide +kernel)
  (hs:∀x,foldedSetIterable iter X.env x=pure x:=by exact fun _=>rfl):ME X (.ListComp elt [⟨tg,iter,ifs,0⟩] scope pos) (bO vars.length fm mi gt mt me) :=
 me_comp g (j5 hsc h1 h7 h) nd hgl dbg hi (fun Y y1 y2 y3 y4 y5 _ g=>hY Y ⟨y1,y2,y3,y4,y5⟩ g) hs
theorem kSc{spos py:Pos}{y:Str}(g:Good X N W G k)(hsc:X.env.scope=sc)(i:Nat)(vars frees G':List Str)(fm:List Nat)(hi:MI X tg iter mi)(hY:∀Y:Cx,YE Y X->Good Y (vars++frees) vars G' k->MG Y tg gt/\MTs Y ifs mt/\ME Y elt me)
  (hsw:∀env:Env,env.scope=sc->swapsWith (.ListComp elt [⟨tg,iter,ifs,0⟩] scope pos) (some (.Name y py)) spos.line env=pure true:=by (intro env h;cases env;cases h;rfl))
  (hyi:N[i]?=some y:=by rfl) (hw:W[i]?=some y:=by rfl)
  (h1:scope.kind=.function:=by rfl) (h7:fm.map (fun i=>N[i]?)=frees.map some:=by rfl) (h:CPm scope sc vars frees:=by decide +kernel)
  (nd:(vars++frees).Nodup:=by decide +kernel) (hgl:∀x∈G',scope.names.lookup x=some .globalImplicit:=by decide +kernel) (dbg:∀x∈(vars++frees)++G',(x == ("__debug__":Str))=false/\(x == ("__classdict__":Str))=false/\x≠"__name__":=by decide +kernel)
  (hs:∀x,foldedSetIterable iter X.env x=pure x:=by exact fun _=>rfl):MS X (.Assign [.Name y py] (.ListComp elt [⟨tg,iter,ifs,0⟩] scope pos) spos) (aO i (bO vars.length fm mi gt mt me)) :=
 pD g i hyi hw (hsw X.env hsc) (j5 hsc h1 h7 h) nd hgl dbg hi (fun Y y1 y2 y3 y4 y5 _ g=>hY Y ⟨y1,y2,y3,y4,y5⟩ g) hs
theorem kSq{spos py:Pos}{y:Str}(g:Good X N W G k)(hsc:X.env.scope=sc)(i:Nat)(vars frees G':List Str)(fm:List Nat)(hi:MI X tg iter mi)(hY:∀Y:Cx,YE Y X->Y.env.scope=rlb scope sc->Good Y (vars++frees) vars G' k->MG Y tg gt/\MTs Y ifs mt/\ME Y elt me)
  (hsw:∀env:Env,env.scope=sc->swapsWith (.ListComp elt [⟨tg,iter,ifs,0⟩] scope pos) (some (.Name y py)) spos.line env=pure true:=by (intro env h;cases env;cases h;rfl))
  (hyi:N[i]?=some y:=by rfl) (hw:W[i]?=some y:=by rfl)
  (h1:scope.kind=.function:=by rfl) (h7:fm.map (fun i=>N[i]?)=frees.map some:=by rfl) (h:CPm scope sc vars frees:=by decide +kernel)
  (nd:(vars++frees).Nodup:=by decide +kernel) (hgl:∀x∈G',scope.names.lookup x=some .globalImplicit:=by decide +kernel) (dbg:∀x∈(vars++frees)++G',(x == ("__debug__":Str))=false/\(x == ("__classdict__":Str))=false/\x≠"__name__":=by decide +kernel)
  (hs:∀x,foldedSetIterable iter X.env x=pure x:=by exact fun _=>rfl):MS X (.Assign [.Name y py] (.ListComp elt [⟨tg,iter,ifs,0⟩] scope pos) spos) (aO i (bO vars.length fm mi gt mt me)) :=
 pD g i hyi hw (hsw X.env hsc) (j5 hsc h1 h7 h) nd hgl dbg hi (fun Y y1 y2 y3 y4 y5 y6 g=>hY Y ⟨y1,y2,y3,y4,y5⟩ (y6.trans (rlb_eq hsc)) g) hs
end
end
abbrev rQ:=@PyProof.Rows.Boot.«abs»
abbrev mW:=@PyProof.Rows.Boot.«min»
abbrev bt_max:=@PyProof.Rows.Boot.«max»
abbrev sK:=@PyProof.Rows.Boot.«int»
abbrev cB:=@PyProof.Rows.Boot.«len»
abbrev ia:=@PyProof.Rows.Boot.«list»
abbrev tw:=@PyProof.Rows.Boot.«tuple»
abbrev ss:=@PyProof.Rows.Boot.«all»
abbrev qY:=@PyProof.Rows.Boot.«sorted»
abbrev pV:=@PyProof.Rows.Boot.«bool»
abbrev lH:=@PyProof.Rows.Boot.«ValueError»
abbrev r6:=@PySem.F.slot_list_append
abbrev sX:=@PySem.F.type_list_append
abbrev rK:=@PySem.F.slot_list_insert
abbrev sM:=@PySem.F.type_list_insert
abbrev sH:=@PySem.F.slot_list_remove
abbrev qZ:=@PySem.F.type_list_remove
end MM
namespace PU
open PySem MM
open L2 (ixN atI fe)
noncomputable local instance (priority:=1) cdecN15 (p:Prop):Decidable p:=Classical.propDecidable p
noncomputable section
section
variable {ws:List Nat}
end
end
noncomputable section
def eqL(a b:D):Option D:=match a,b with
 | .lst xs,.lst ys=>if xs.length≠ys.length then some (.bl false) else eqD false a b
 | _,_=>eqD false a b
theorem opEqL_1{x y:PV}{h:MH}(e:lsO h x=none):opEqL x y h=opEq x y h:=by simp only[opEqL,e]
theorem opEqL_2{x y:PV}{h:MH}(e:lsO h y=none):opEqL x y h=opEq x y h:=by
 simp only[opEqL,e];cases lsO h x <;> rfl
theorem rC{q:Nat}{h:MH}{L:Nat}{O:List Nat}{d:D}{v:PV}{u:PyData}(w:Vw q h L O d v)(e:py d=some u)(nl:∀ds,d≠.lst ds):lsO h v=none:=by
 cases d with
 | non=>rw[w.non];rfl
 | bl b=>rw[w.bl];rfl
 | int b=>rw[w.int];rfl
 | str b=>rw[w.str];rfl
 | tup b=>obtain⟨xs,rfl,_⟩:=w.tup;rfl
 | lst ds=>exact absurd rfl (nl ds)
 | _=>cases e
def nK:Op2 where
 m:=opEqL
 p:=eqL
 fr:=true
 ok {q h L O a x b y d} bd wa wb e:=by
  have other:eqD false a b=some d->opEqL x y h=opEq x y h->Gv q h O true (opEqL x y h) d:=fun e1 e2=>by
   rw[e2];exact oEq.ok bd wa wb e1
  by_cases la:∃xs,a=.lst xs
  ·obtain⟨xs,rfl⟩:=la;by_cases lb:∃zs,b=.lst zs
   ·obtain⟨zs,rfl⟩:=lb;obtain⟨n,us,rfl,g,r⟩:=wa.lst;obtain⟨m,vs,rfl,g',r'⟩:=wb.lst;have l1:=r.length;have l2:=r'.length;have e0:opEqL (.loc n) (.loc m) h=if us.length≠vs.length then .ok (.bl false) h else opEq (.loc n) (.loc m) h:=by simp only[opEqL,lsO,g,g']
    unfold eqL at e;dsimp only at e;by_cases z:xs.length≠zs.length
    ·rw[qaf z] at e;cases e;rw[e0,qaf (by omega)];exact gvB
    ·rw[qai z] at e;exact other e (by rw[e0,qai (by omega)])
   ·have e1:eqD false (.lst xs) b=some d:=by
     cases b with
     | lst zs=>exact absurd ⟨zs,rfl⟩ lb
     | _=>exact e
    obtain⟨_,_,_,e3,_⟩:=ib e1;exact other e1 (opEqL_2 (rC wb e3 fun zs z=>lb ⟨zs,z⟩))
  ·have e1:eqD false a b=some d:=by
    cases a with
    | lst xs=>exact absurd ⟨xs,rfl⟩ la
    | _=>exact e
   obtain⟨_,_,e3,_⟩:=ib e1;exact other e1 (opEqL_1 (rC wa e3 fun zs z=>la ⟨zs,z⟩))
theorem eqL_ne{xs zs:List D}(h:xs.length≠zs.length):nK.p (.lst xs) (.lst zs)=some (.bl false):=by
 show eqL (.lst xs) (.lst zs)=_;unfold eqL;dsimp only;rw[qaf h]
theorem eqL_eq{xs zs:List D}(h:xs.length=zs.length):nK.p (.lst xs) (.lst zs)=eqD false (.lst xs) (.lst zs):=by
 show eqL (.lst xs) (.lst zs)=_;unfold eqL;dsimp only;rw[qai (by simpa using h)]
end
noncomputable section
end
end PU
namespace PU
open PySem MM
open L2 (ixN atI fe)
section
variable {ws:List Nat}
end
end PU
namespace PU
open PySem MM L2
def xFz{ws ws':List Nat}(i:Nat)(b:Xd ws')(hi:ws.contains i=true:=by exact ys rfl)(hw:ws.filter (· != i)=ws':=by exact ys rfl):Xd ws where
 m:=b.m
 p:=fun env s=>match env[i]? with
  | some (some _)=>(match b.p env s with | .rt d s=>.rt d s | _=>.bad)
  | _=>.bad
 fr:=b.fr
 ok {q h L B O σ env s} c d:=by
  show SOk q L h B O ws b.fr (b.m σ h) (match env[i]? with | some (some _)=>(match b.p env s with | .rt d s=>PS.rt d s | _=>.bad) | _=>.bad)
  cases e:env[i]? with
  | none=>trivial
  | some o =>
   cases o with
   | none=>trivial
   | some x =>
    have hi':i∈ws:=by simpa using hi
    obtain⟨n,xs,ds,e1,e2,a,bb,g,r⟩:=c.sr.ow i x e hi';have mw:∀j,j∈ws'↔j∈ws/\j≠i:=fun j=>by rw[<-hw];simp
    have mo:∀o,o∈O.filter (· != n)↔o∈O/\o≠n:=fun o=>by simp
    have mv:Mv O h (O.filter (· != n)) h:=⟨fun _ _ _=>rfl,fun o ho=>.inl ((mo o).mp ho).1⟩;have c':Cx q h L B (O.filter (· != n)) ws' σ env s:=by
     refine⟨fun o ho=>c.bd o ((mo o).mp ho).1,fun o ho=>(mo o).mpr ⟨c.sub o ho,fun z=>by have:=c.bb o ho;omega⟩,c.bb,c.pb,c.hL,c.pen,c.sr.len,fun j y ey hj=>?_,fun j y ey hj=>?_⟩
     ·by_cases z:j=i
      ·subst z;rw[e] at ey;cases ey;subst e1;exact⟨_,e2,n,xs,rfl,fun z=>((mo n).mp z).2 rfl,g,r.mv mv⟩
      ·obtain⟨v,e3,q⟩:=c.sr.fz j y ey fun z'=>hj ((mw j).mpr ⟨z',z⟩);exact⟨v,e3,q.mv mv⟩
     ·obtain⟨hj1,hj2⟩:=(mw j).mp hj;obtain⟨n',xs',ds',e3,e4,a',b',g',r'⟩:=c.sr.ow j y ey hj1;refine⟨n',xs',ds',e3,e4,(mo n').mpr ⟨a',fun z=>?_⟩,b',g',r'.mv mv⟩;subst z;exact d i j hi' hj1 (Ne.symm hj2) x y _ e ey e2 e4
    have d':Dis ws' σ env:=fun j k hj hk=>d j k ((mw j).mp hj).1 ((mw k).mp hk).1;have k:=b.ok c' d'
    cases ep:b.p env s with
    | rt d s=>rw[ep] at k;exact k
    | _=>trivial
theorem xFz_p{ws ws':List Nat}{i:Nat}{b:Xd ws'}{hi:ws.contains i=true}{hw:ws.filter (· != i)=ws'}{env:aq}{s s':Pen}{x d:D}(e:env[i]?=some (some x))(h:b.p env s=.rt d s'):(xFz i b hi hw).p env s=.rt d s':=by
 show (match env[i]? with | some (some _)=>(match b.p env s with | .rt d s=>PS.rt d s | _=>.bad) | _=>.bad)=_;rw[e,h]
end PU
namespace Law
open PySem PySem.Spec PyProof.Rows L2 MM
set_option maxHeartbeats 4000000
noncomputable section
def m_is_whole:Mst:=(aV (jD (mUn (gh ["int"]) (af 0)) (lQ (mUn (gh ["bool"]) (af 0)))))
def jy:List PV->MH->Out PV:=bp 1 1 m_is_whole
def m_is_place:Mst:=(aV (jD (aR jy (ae (af 1) mNil)) (gL opLe opLt (mC (.int 0)) (af 1) (af 0))))
def jE:List PV->MH->Out PV:=bp 2 2 m_is_place
def m_is_order:Mst:=(aF (mIf (fh (mB (mUn (gh ["list"]) (af 1)))) (aV (mC (.bl false))) mSkip)
 (aF (mIf (fh (mB (mCB fAll (ae (bO 1 [0] (db (af 1)) (gNm 0) mTrue (aR jE (ae (ai aY (af 1) (mC (.int 0))) (ae (af 0) mNil)))) mNil)))) (aV (mC (.bl false))) mSkip)
 (aV (ai opEq (mCB fSorted (ae (af 1) mNil)) (mLR (ae (ai aY (af 0) (mC (.int 0))) mNil))))))
def jF:List PV->MH->Out PV:=bp 2 2 m_is_order
def m_check_order:Mst:=(mIf (fh (mB (aR jF (ae (af 0) (ae (af 1) mNil))))) (gR "NoOrder" (ae (mC (.str "an order is a list with each place once")) mNil)) mSkip)
def gE:List PV->MH->Out PV:=bp 2 2 m_check_order
def m_keeps:Mst:=(aF (dH (aR gE (ae (dY (ae (mCB fLen (ae (af 0) mNil)) (ae (dY mNil) mNil))) (ae (af 1) mNil))))
 (aV (mCB fAll (ae (bO 2 [0,1] (nr (ae (af 1) mNil)) (gTp (gCn (gNm 0) (gCn (gNm 1) gNl)) 2) mTrue (ai (kh true) (ai aY (af 2) (af 1)) (mSl (af 3) mNo (mPt (af 0))))) mNil))))
def oX:List PV->MH->Out PV:=bp 2 2 m_keeps
def m_l_pen:Mst:=(aF (aO 2 (ai opAdd (ai opMul (mC (.int 7919)) (af 1)) (mC (.int 11))))
 (aF (mIf (mB (ai opLt (af 1) (mCB fMin (ae (mCB fLen (ae (af 0) mNil)) (ae (mC (.int 63)) mNil))))) (aO 2 (ai aY (af 0) (af 1))) (mIf (mB (ai opGt (mCB fLen (ae (af 0) mNil)) (mC (.int 0)))) (aO 2 (ai opAdd (ai opMod (ai aY (af 0) (ai opMod (af 1) (mCB fMin (ae (mCB fLen (ae (af 0) mNil)) (ae (mC (.int 63)) mNil))))) (ai opPow (mC (.int 10)) (mC (.int 15)))) (ai opMul (mC (.int 48271)) (af 1)))) mSkip))
 (aF (mIf (mB (ai opGe (mCB fAbs (ae (af 2) mNil)) (ai opPow (mC (.int 10)) (mC (.int 18))))) (aV (aZ (ae (mC (.int 1)) (ae (mCB fAbs (ae (af 2) mNil)) (ae (mC (.int 0)) mNil))))) mSkip)
 (aV (aZ (ae (mC (.int 0)) (ae (ai opAdd (ai opMod (af 2) (mC (.int 2147483587))) (ai opMul (mC (.int 40009)) (af 1))) (ae (mC (.int 0)) mNil))))))))
def fu:List PV->MH->Out PV:=bp 3 2 m_l_pen
def m_l_draw:Mst:=(aF (gO (ai opAdd (ai aY (af 0) (mC (.int 2))) (mC (.int 1))) (gSb (af 0) (mC (.int 2))))
 (aF (mIf (mB (ai opEq (ai aY (af 0) (mC (.int 0))) (mC (.int 1)))) (aF (aO 3 (ai opMod (ai aY (af 0) (mC (.int 1))) (af 1)))
 (aF (gO (ai opFd (ai aY (af 0) (mC (.int 1))) (af 1)) (gSb (af 0) (mC (.int 1))))
 (aV (af 3)))) mSkip)
 (aF (aO 2 (ai opMod (ai opMul (ai opAdd (ai opAdd (ai aY (af 0) (mC (.int 1))) (ai opMul (mC (.int 40503)) (ai aY (af 0) (mC (.int 2))))) (mC (.int 1))) (mC (.int 48271))) (mC (.int 2147483647))))
 (aF (aO 2 (ai opMod (ai opMul (af 2) (ai opAdd (ai opAdd (ai opMod (af 2) (mC (.int 65521))) (ai aY (af 0) (mC (.int 2)))) (mC (.int 3)))) (mC (.int 2147483629))))
 (aV (ai opMod (ai opFd (ai opMod (ai opMul (af 2) (ai opAdd (ai opMod (af 2) (mC (.int 8191))) (mC (.int 7)))) (mC (.int 2147483563))) (mC (.int 64))) (af 1)))))))
def ba:List PV->MH->Out PV:=bp 4 2 m_l_draw
def m_l_rounds:Mst:=(aV (mCB fMax (ae (mC (.int 4)) (ae (mCB fMin (ae (mCB fLen (ae (af 0) mNil)) (ae (af 1) mNil))) mNil))))
def cX:List PV->MH->Out PV:=bp 2 2 m_l_rounds
def m_l_order:Mst:=(aF (aO 2 (aZ mNil))
 (aF (gM (gc (ae (af 1) mNil)) (gNm 3) (dH (mMt fJ (af 2) (ae (aR ba (ae (af 0) (ae (ai opAdd (af 3) (mC (.int 1))) mNil))) (ae (af 3) mNil)))))
 (aV (af 2))))
def eP:List PV->MH->Out PV:=bp 4 2 m_l_order
def m_l_kind:Mst:=(aF (aO 1 (aZ (ae (dY (ae (mC (.str "web")) (ae (mUn (be ["NoOrder"] []) (af 0)) mNil))) (ae (dY (ae (mC (.str "place")) (ae (mUn (be ["NoOrder"] []) (af 0)) mNil))) mNil))))
 (aF (aO 1 (ai opAdd (af 1) (aZ (ae (dY (ae (mC (.str "order")) (ae (mUn (be ["NoOrder"] ["NoOrder"]) (af 0)) mNil))) (ae (dY (ae (mC (.str "parting")) (ae (mUn (be ["NoOrder"] []) (af 0)) mNil))) mNil)))))
 (aF (aO 1 (ai opAdd (af 1) (aZ (ae (dY (ae (mC (.str "other")) (ae (mUn (be ["NoOrder"] ([]++([]++([]++([]++([]++([]++([]++[])))))))) (af 0)) mNil))) mNil))))
 (aF (aO 2 (bO 2 [] (db (af 1)) (gTp (gCn (gNm 0) (gCn (gNm 1) gNl)) 2) (mTr (af 1)) (af 0)))
 (aF (mIf (mOr (mB (ai opNe (mCB fLen (ae (af 2) mNil)) (mC (.int 1)))) (fh (mB (mUn (be ["NoOrder"] ["NoOrder"]) (af 0))))) (aV (mC (.str "other"))) mSkip)
 (aV (ai aY (af 2) (mC (.int 0)))))))))
def mS:List PV->MH->Out PV:=bp 3 1 m_l_kind
def m_l_kept:Mst:=(aF (aO 2 (mLR (ae (mCB fLen (ae (af 1) mNil)) mNil)))
 (aF (aO 3 (aZ mNil))
 (aF (mWh (mB (ai opNe (af 2) (aZ mNil))) (aF (aO 4 (bO 1 [2,1] (db (af 2)) (gNm 0) (mB (ai opEqL (bO 1 [0,2] (db (af 1)) (gNm 0) (mB (ai opEq (ai aY (af 2) (af 0)) (af 1))) (af 0)) (aZ mNil))) (af 0)))
 (aF (aO 5 (ai aY (af 4) (aR ba (ae (af 0) (ae (mCB fLen (ae (af 4) mNil)) mNil)))))
 (aF (dH (mMt fy (af 3) (ae (af 5) mNil)))
 (dH (mMt fG (af 2) (ae (af 5) mNil)))))))
 (aV (af 3)))))
def mm:List PV->MH->Out PV:=bp 6 2 m_l_kept
def m_l_above:Mst:=(aF (aO 2 (aR eP (ae (af 0) (ae (af 1) mNil))))
 (aF (aO 3 (ai aY (aZ (ae (mC (.int 1)) (ae (mC (.int 2)) (ae (mC (.int 6)) mNil)))) (aR ba (ae (af 0) (ae (mC (.int 3)) mNil)))))
 (aF (aO 4 (bO 1 [] (db (af 2)) (gNm 0) mTrue (mC .non)))
 (aF (gM (nr (ae (af 2) mNil)) (gTp (gCn (gNm 5) (gCn (gNm 6) gNl)) 2) (mIf (mQ (mB (ai opLt (ai opAdd (af 5) (mC (.int 1))) (af 1))) (mB (ai opGt (aR ba (ae (af 0) (ae (ai opAdd (af 3) (mC (.int 1))) mNil))) (mC (.int 0))))) (gO (ai aY (af 2) (ai opAdd (ai opAdd (af 5) (mC (.int 1))) (aR ba (ae (af 0) (ae (ai opSub (ai opSub (af 1) (af 5)) (mC (.int 1))) mNil))))) (gSb (af 4) (af 6))) mSkip))
 (aV (af 4))))))
def kT:List PV->MH->Out PV:=bp 7 2 m_l_above
def m_l_holds:Mst:=(aF (gM (nr (ae (af 1) mNil)) (gTp (gCn (gNm 2) (gCn (gNm 3) gNl)) 2) (mIf (mQ (mB (ai (kK true) (ai aY (af 0) (af 3)) (mC .non))) (mB (ai (kh true) (ai aY (af 0) (af 3)) (mSl (af 1) (mPt (ai opAdd (af 2) (mC (.int 1)))) mNo)))) (aV (mC (.bl false))) mSkip))
 (aV (mC (.bl true))))
def lD:List PV->MH->Out PV:=bp 4 2 m_l_holds
def m_l_told:Mst:=(aF (aO 2 (mC .non))
 (aF (aO 3 (mC .non))
 (aF (nA ["NoOrder"] 2 4 (aO 3 (aR oX (ae (af 0) (ae (af 1) mNil)))))
 (aF (mIf (mB (ai (kK false) (af 2) (mC .non))) (aV (af 3)) mSkip)
 (aV (aR mS (ae (af 2) mNil)))))))
def fO:List PV->MH->Out PV:=bp 5 2 m_l_told
def m_l_bad_order:Mst:=(aF (aO 2 (mCB fLen (ae (af 1) mNil)))
 (aF (aO 3 (aZ (ae (mCB fTuple (ae (af 1) mNil)) (ae (ai opAdd (af 1) (aZ (ae (af 2) mNil))) (ae (ai opAdd (af 1) (aZ (ae (mC .non) mNil))) (ae (mC .non) (ae (mC (.str "")) (ae mDic (ae (af 2) (ae (aZ (ae (af 1) mNil)) (ae (ai opAdd (af 1) (aZ (ae (mUn opNeg (mC (.int 1))) mNil))) (ae (aZ (ae (aZ mNil) mNil)) (ae (aZ (ae (mC (.str "0")) mNil)) (ae (aZ (ae (mC (.bl true)) mNil)) (ae (mC (.int 0)) mNil)))))))))))))))
 (aF (mIf (mB (ai opGt (af 2) (mC (.int 0)))) (aF (aO 3 (ai opAdd (af 3) (aZ (ae (mSl (af 1) (mPt (mC (.int 1))) mNo) (ae (ai opAdd (mSl (af 1) (mPt (mC (.int 1))) mNo) (aZ (ae (af 2) mNil))) (ae (ai opAdd (mSl (af 1) (mPt (mC (.int 1))) mNo) (aZ (ae (mUn opNeg (mC (.int 1))) mNil))) (ae (ai opAdd (mSl (af 1) mNo (mPt (ai opSub (af 2) (mC (.int 1))))) (aZ (ae (mC (.str "0")) mNil))) (ae (ai opAdd (af 1) (mSl (af 1) mNo (mPt (mC (.int 1))))) mNil))))))))
 (aO 3 (ai opAdd (af 3) (aZ (ae (bO 1 [] (db (af 1)) (gNm 0) mTrue (ai aY (aZ (ae (af 0) (ae (ai opGt (af 0) (mC (.int 0))) mNil))) (mCB fInt (ae (ai opLt (af 0) (mC (.int 2))) mNil)))) (ae (bO 1 [] (db (af 1)) (gNm 0) mTrue (ai opAdd (af 0) (mC (.int 1)))) (ae (aZ mNil) (ae (dY mNil) mNil)))))))) mSkip)
 (aV (ai aY (af 3) (aR ba (ae (af 0) (ae (mCB fLen (ae (af 3) mNil)) mNil))))))))
def gw:List PV->MH->Out PV:=bp 4 2 m_l_bad_order
def m_l_right:Mst:=(aF (aO 1 (aR ba (ae (af 0) (ae (mC (.int 13)) mNil))))
 (aF (aO 2 (aR kT (ae (af 0) (ae (af 1) mNil))))
 (aF (aO 3 (aR mm (ae (af 0) (ae (af 2) mNil))))
 (aF (aO 4 (aZ (ae (af 3) (ae (aR eP (ae (af 0) (ae (af 1) mNil))) (ae (mCB fList (ae (af 3) mNil)) mNil)))))
 (aF (mIf (mB (ai opGt (af 1) (mC (.int 1)))) (aF (aO 7 (aR ba (ae (af 0) (ae (ai opSub (af 1) (mC (.int 1))) mNil))))
 (gO (ai opAdd (ai opAdd (mSl (af 3) mNo (mPt (af 7))) (aZ (ae (ai aY (af 3) (ai opAdd (af 7) (mC (.int 1)))) (ae (ai aY (af 3) (af 7)) mNil)))) (mSl (af 3) (mPt (ai opAdd (af 7) (mC (.int 2)))) mNo)) (gSb (af 4) (mC (.int 2))))) mSkip)
 (aF (aO 5 (mCB fList (ae (af 2) mNil)))
 (aF (gM (db (af 4)) (gNm 6) (aF (aO 8 (mCB fList (ae (af 6) mNil)))
 (aF (aO 9 (aR fO (ae (af 5) (ae (af 8) mNil))))
 (aF (mIf (mOr (fh (mB (mUn (gh ["bool"]) (af 9)))) (mOr (mB (ai opNe (af 9) (aR lD (ae (af 2) (ae (af 6) mNil))))) (mOr (mB (ai opNe (af 8) (af 6))) (mB (ai opNe (af 5) (af 2)))))) (aV (mC (.bl false))) mSkip)
 (mIf (mB (ai opNe (aR fO (ae (af 5) (ae (aR gw (ae (af 0) (ae (af 6) mNil))) mNil))) (mC (.str "order")))) (aV (mC (.bl false))) mSkip)))))
 (aV (ai (kK false) (aR fO (ae (af 5) (ae (af 3) mNil))) (mC (.bl true)))))))))))
def du:List PV->MH->Out PV:=bp 10 1 m_l_right
def m_law:Mst:=(aF (gM (gc (ae (aR cX (ae (af 0) (ae (mC (.int 30)) mNil))) mNil)) (gNm 1) (mIf (fh (mB (aR du (ae (aR fu (ae (af 0) (ae (af 1) mNil))) mNil)))) (aV (mC (.bl false))) mSkip))
 (aV (mC (.bl true))))
def f_law:List PV->MH->Out PV:=bp 2 1 m_law
end
end Law
namespace Law
open PySem MM PU
open L2 (ixN atI fe)
set_option maxHeartbeats 4000000
noncomputable section
def dP:Xd []:=(bR (qu (xUn (gK ["int"]) (ac 0)) (xNotV (xUn (gK ["bool"]) (ac 0)))))
def dQ:Fn:=cZ 1 1 dP
theorem iM{ds:List D}{s:Pen}(h:ds.length=1):dQ.p ds s=(dP.p (dSt 1 ds) s).fin:=bS h
def dI:Xd []:=(bR (qu (aP dQ (ag (ac 1) xNil)) (sA oLe oLt (xC (.int 0)) (ac 1) (ac 0))))
def cV:Fn:=cZ 2 2 dI
theorem iJ{ds:List D}{s:Pen}(h:ds.length=2):cV.p ds s=(dI.p (dSt 2 ds) s).fin:=bS h
def f9:Xd []:=(aI (xIf (jb (xB (xUn (gK ["list"]) (ac 1)))) (bR (xC (.bl false))) xSkip)
 (aI (xIf (jb (xB (xCb cAll (ag (bN 1 [0] (bW (ac 1)) (ws':=[]) (xNm 0) xTrue (aP cV (ag (ak oIx (ac 1) (xC (.int 0))) (ag (ac 0) xNil)))) xNil)))) (bR (xC (.bl false))) xSkip)
 (bR (ak oEq (xCb pj (ag (ac 1) xNil)) (xCb cLR (ag (ak oIx (ac 0) (xC (.int 0))) xNil))))))
def gr:Fn:=cZ 2 2 f9
theorem oJ{ds:List D}{s:Pen}(h:ds.length=2):gr.p ds s=(f9.p (dSt 2 ds) s).fin:=bS h
def cF:Xd []:=(xIf (jb (xB (aP gr (ag (ac 0) (ag (ac 1) xNil))))) (sU "NoOrder" (ag (xC (.str "an order is a list with each place once")) xNil)) xSkip)
def bI:Fn:=cZ 2 2 cF
theorem fE{ds:List D}{s:Pen}(h:ds.length=2):bI.p ds s=(cF.p (dSt 2 ds) s).fin:=bS h
def iA:Xd []:=(aI (xDrop (aP bI (ag (fR (ag (xCb fQ (ag (ac 0) xNil)) (ag (fR xNil) xNil))) (ag (ac 1) xNil))))
 (bR (xCb cAll (ag (bN 2 [0,1] (kH iE (ag (ac 1) xNil)) (ws':=[]) (xGp (xGc (xNm 0) (xGc (xNm 1) xGl)) 2) xTrue (ak (oIn true) (ak oIx (ac 2) (ac 1)) (xSl (ac 3) xNo (xPt (ac 0))))) xNil))))
def fL:Fn:=cZ 2 2 iA
theorem mL{ds:List D}{s:Pen}(h:ds.length=2):fL.p ds s=(iA.p (dSt 2 ds) s).fin:=bS h
theorem j4{h:MH}{p:Nat}{o:MO}(hp:p<h.length):(h.set p o)[p]?=some o:=qas hp
theorem ix2:ixN 3 2=some 2:=km (n:=3) (m:=2) (by decide)
theorem ix1:ixN 3 1=some 1:=km (n:=3) (m:=1) (by decide)
theorem fk(s:Pen)(size:Int)(hs:0<size)(hl:size.natAbs.log2<9000):∃x:Int × Int,(0<=x.1/\x.1<size)/\∀(h:MH) (p:Nat),bG h p s->ba [.loc p,.int size] h=.ok (.int x.1) (h.set p (.lst [.int s.1,.int x.2,.int (s.2.2+1)])):=by
 obtain⟨m,c,t⟩:=s;have hs0:size≠0:=by omega
 have st:∀n:Int,0<=n.fmod size/\n.fmod size<size:=fun n=>by
  rw[qby n (by omega)];exact⟨Int.emod_nonneg n hs0,Int.emod_lt_of_pos n hs⟩
 by_cases hm:m=1
 ·subst hm;refine⟨(c.fmod size,c.fdiv size),st c,fun h p e=>?_⟩;have e:h[p]?=some (.lst [.int 1,.int c,.int t]):=e;have hp:p<h.length:=(qab.mp e).1;have e2:(h.set p (.lst [.int 1,.int c,.int (t+1)]))[p]?=some (.lst [.int 1,.int c,.int (t+1)]):=j4 hp;unfold ba;refine (fH (by rfl)).trans ?_;unfold m_l_draw;simp[bv,List.replicate,fU e,i7 e,ix2,fU e2,da hs0,pJ hs0 hl,i7 e2,ix1]
 ·have big:∀n k:Int,0<k->0<=n.fmod k/\n.fmod k<k:=fun n k hk=>by
   rw[qby n (by omega)];exact⟨Int.emod_nonneg n (by omega),Int.emod_lt_of_pos n hk⟩
  generalize ea:((c+40503 * (t+1)+1) * 48271).fmod 2147483647=A;have b1:=big ((c+40503 * (t+1)+1) * 48271) 2147483647 (by decide);rw[ea] at b1;generalize eb:(A * (A.fmod 65521+(t+1)+3)).fmod 2147483629=C;have b2:=big (A * (A.fmod 65521+(t+1)+3)) 2147483629 (by decide);rw[eb] at b2;refine⟨((((C * (C.fmod 8191+7)).fmod 2147483563).fdiv 64).fmod size,c),st _,fun h p e=>?_⟩;have e:h[p]?=some (.lst [.int m,.int c,.int t]):=e;have hp:p<h.length:=(qab.mp e).1;have e2:(h.set p (.lst [.int m,.int c,.int (t+1)]))[p]?=some (.lst [.int m,.int c,.int (t+1)]):=j4 hp;have c1:-(2 ^ 64)<A/\A<2 ^ 64:=by omega
  have c2:-(2 ^ 64)<C/\C<2 ^ 64:=by omega
  have k1:∀{i:Int} {h:MH},opMul (.int 40503) (.int i) h=.ok (.int (40503 * i)) h:=dW (by decide);have k2:∀{i:Int} {h:MH},opMul (.int i) (.int 48271) h=.ok (.int (i * 48271)) h:=opMul_r (by decide);unfold ba;refine (fH (by rfl)).trans ?_;unfold m_l_draw;simp[bv,List.replicate,fU e,i7 e,ix2,fU e2,hm,k1,k2,da,ea,dW c1,eb,dW c2,pJ (show (64:Int)≠0 by decide) (show (64:Int).natAbs.log2<9000 by decide +kernel),da hs0]
open Classical in
noncomputable def io(s:Pen)(size:Int):Int × Int:=if z:0<size/\size.natAbs.log2<9000 then (fk s size z.1 z.2).choose else (0,0)
def jw(ds:List D):Option Int:=match ds with
 | [.pen,.int i]=>some i
 | _=>none
theorem pZ{ds:List D}{i:Int}(e:jw ds=some i):ds=[.pen,.int i]:=by
 unfold jw at e
 split at e
 ·cases e;rfl
 ·cases e
open Classical in
noncomputable def bn:Fn where
 m:=ba
 p:=fun ds s=>match jw ds with
  | some size=>if 0<size/\size.natAbs.log2<9000 then .ok (.int (io s size).1) (s.1,(io s size).2,s.2.2+1) else .bad
  | none=>.bad
 fr:=true
 ok {q h O vs ds s} bd hq pn r:=by
  cases e:jw ds with
  | none=>trivial
  | some size =>
   have:=pZ e
   subst this;dsimp only;by_cases z:0<size/\size.natAbs.log2<9000
   ·rw[qaf z];obtain⟨x,t,rfl,hx,y,t',rfl,hy,ht⟩:=r;rw[show x=PV.loc q from hx,show y=PV.int size from hy,show t'=[] from ht];have k:=(fk s size z.1 z.2).choose_spec.2 h q pn;have ed:io s size=(fk s size z.1 z.2).choose:=by unfold io;rw[dif_pos z]
    rw[<-ed] at k;refine⟨_,_,k,⟨by simp,fun n hn hp=>qad (Ne.symm hp)⟩,j4 (aX pn),rfl,fun _ ds e=>by cases e⟩
   ·rw[qai z];trivial
open Classical in
theorem cY{s:Pen}{size:Int}(hs:0<size)(hl:size<=2000000000):∃d s',0<=d/\d<size/\bn.p [.pen,.int size] s=.ok (.int d) s':=by
 have hlog:size.natAbs.log2<9000:=by
  have h1:size.natAbs<=2000000000:=by omega
  have h2:size.natAbs.log2<31:=(Nat.log2_lt (by omega)).mpr (by omega);omega
 have z:0<size/\size.natAbs.log2<9000:=⟨hs,hlog⟩;have ed:io s size=(fk s size z.1 z.2).choose:=by unfold io;rw[dif_pos z]
 have k:=(fk s size z.1 z.2).choose_spec.1;rw[<-ed] at k;exact⟨_,_,k.1,k.2,by show (if 0<size/\size.natAbs.log2<9000 then _ else _)=_;rw[qaf z]⟩
def g9:Xd [2]:=(aI (ip 2 (bg xNil))
 (aI (m5 (kH iR1 (ag (ac 1) xNil)) (xNm 3) (xMt kl 2 (ag (aP bn (ag (ac 0) (ag (ak aW (ac 3) (xC (.int 1))) xNil))) (ag (ac 3) xNil))))
 (lP 2)))
def fc:Fn:=cZ 4 2 g9
theorem qb{ds:List D}{s:Pen}(h:ds.length=2):fc.p ds s=(g9.p (dSt 4 ds) s).fin:=bS h
def iU:Xd []:=(aI (br 1 (bg (ag (fR (ag (xC (.str "web")) (ag (xUn (ic ["NoOrder"] []) (ac 0)) xNil))) (ag (fR (ag (xC (.str "place")) (ag (xUn (ic ["NoOrder"] []) (ac 0)) xNil))) xNil))))
 (aI (br 1 (ak aW (ac 1) (bg (ag (fR (ag (xC (.str "order")) (ag (xUn (ic ["NoOrder"] ["NoOrder"]) (ac 0)) xNil))) (ag (fR (ag (xC (.str "parting")) (ag (xUn (ic ["NoOrder"] []) (ac 0)) xNil))) xNil)))))
 (aI (br 1 (ak aW (ac 1) (bg (ag (fR (ag (xC (.str "other")) (ag (xUn (ic ["NoOrder"] ([]++([]++([]++([]++([]++([]++([]++[])))))))) (ac 0)) xNil))) xNil))))
 (aI (br 2 (bN 2 [] (bW (ac 1)) (ws':=[]) (xGp (xGc (xNm 0) (xGc (xNm 1) xGl)) 2) (xTr (ac 1)) (ac 0)))
 (aI (xIf (xOr (xB (ak oNe (xCb fQ (ag (ac 2) xNil)) (xC (.int 1)))) (jb (xB (xUn (ic ["NoOrder"] ["NoOrder"]) (ac 0))))) (bR (xC (.str "other"))) xSkip)
 (bR (ak oIx (ac 2) (xC (.int 0)))))))))
def i0:Fn:=cZ 3 1 iU
theorem sw{ds:List D}{s:Pen}(h:ds.length=1):i0.p ds s=(iU.p (dSt 3 ds) s).fin:=bS h
def i6:Xd [2,3]:=(aI (ip 2 (xCb cLR (ag (xCb fQ (ag (ac 1) xNil)) xNil)))
 (aI (ip 3 (bg xNil))
 (aI (xWh 400 (xB (ak oNe (ac 2) (bg xNil))) (aI (br 4 (bN 1 [2,1] (bW (ac 2)) (ws':=[1]) (xNm 0) (xB (ak nK (bN 1 [0,2] (bW (ac 1)) (ws':=[]) (xNm 0) (xB (ak oEq (ak oIx (ac 2) (ac 0)) (ac 1))) (ac 0)) (bg xNil))) (ac 0)))
 (aI (br 5 (ak oIx (ac 4) (aP bn (ag (ac 0) (ag (xCb fQ (ag (ac 4) xNil)) xNil)))))
 (aI (xMt kC 3 (ag (ac 5) xNil))
 (xMt oN 2 (ag (ac 5) xNil))))) mWh_of)
 (lP 3))))
def i5:Fn:=cZ 6 2 i6
theorem su{ds:List D}{s:Pen}(h:ds.length=2):i5.p ds s=(i6.p (dSt 6 ds) s).fin:=bS h
def hZ:Xd [4]:=(aI (br 2 (aP fc (ag (ac 0) (ag (ac 1) xNil))))
 (aI (br 3 (ak oIx (bg (ag (xC (.int 1)) (ag (xC (.int 2)) (ag (xC (.int 6)) xNil)))) (aP bn (ag (ac 0) (ag (xC (.int 3)) xNil)))))
 (aI (ip 4 (bN 1 [] (bW (ac 2)) (ws':=[]) (xNm 0) xTrue (xC .non)))
 (aI (m5 (kH iE (ag (ac 2) xNil)) (xGp (xGc (xNm 5) (xGc (xNm 6) xGl)) 2) (xIf (lY (xB (ak oLt (ak aW (ac 5) (xC (.int 1))) (ac 1))) (xB (ak oGt (aP bn (ag (ac 0) (ag (ak aW (ac 3) (xC (.int 1))) xNil))) (xC (.int 0))))) (nt 4 (ak oIx (ac 2) (ak aW (ak aW (ac 5) (xC (.int 1))) (aP bn (ag (ac 0) (ag (ak g0 (ak g0 (ac 1) (ac 5)) (xC (.int 1))) xNil))))) (ac 6)) xSkip))
 (lP 4)))))
def hG:Fn:=cZ 7 2 hZ
theorem qF{ds:List D}{s:Pen}(h:ds.length=2):hG.p ds s=(hZ.p (dSt 7 ds) s).fin:=bS h
def hJ:Xd []:=(aI (m5 (kH iE (ag (ac 1) xNil)) (xGp (xGc (xNm 2) (xGc (xNm 3) xGl)) 2) (xIf (lY (xB (ak (oIs true) (ak oIx (ac 0) (ac 3)) (xC .non))) (xB (ak (oIn true) (ak oIx (ac 0) (ac 3)) (xSl (ac 1) (xPt (ak aW (ac 2) (xC (.int 1)))) xNo)))) (bR (xC (.bl false))) xSkip))
 (bR (xC (.bl true))))
def eU:Fn:=cZ 4 2 hJ
theorem qm{ds:List D}{s:Pen}(h:ds.length=2):eU.p ds s=(hJ.p (dSt 4 ds) s).fin:=bS h
def fZ:Xd []:=(aI (br 2 (xC .non))
 (aI (br 3 (xC .non))
 (aI (xTry ["NoOrder"] 2 4 (br 3 (aP fL (ag (ac 0) (ag (ac 1) xNil)))))
 (aI (xIf (xB (ak (oIs false) (ac 2) (xC .non))) (bR (ac 3)) xSkip)
 (bR (aP i0 (ag (ac 2) xNil)))))))
def cf:Fn:=cZ 5 2 fZ
theorem kS{ds:List D}{s:Pen}(h:ds.length=2):cf.p ds s=(fZ.p (dSt 5 ds) s).fin:=bS h
def dz:Xd []:=(aI (br 2 (xCb fQ (ag (ac 1) xNil)))
 (aI (br 3 (bg (ag (xCb m6 (ag (ac 1) xNil)) (ag (ak aW (ac 1) (bg (ag (ac 2) xNil))) (ag (ak aW (ac 1) (bg (ag (xC .non) xNil))) (ag (xC .non) (ag (xC (.str "")) (ag xDic (ag (ac 2) (ag (bg (ag (ac 1) xNil)) (ag (ak aW (ac 1) (bg (ag (xUn oNeg (xC (.int 1))) xNil))) (ag (bg (ag (bg xNil) xNil)) (ag (bg (ag (xC (.str "0")) xNil)) (ag (bg (ag (xC (.bl true)) xNil)) (ag (xC (.int 0)) xNil)))))))))))))))
 (aI (xIf (xB (ak oGt (ac 2) (xC (.int 0)))) (aI (br 3 (ak aW (ac 3) (bg (ag (xSl (ac 1) (xPt (xC (.int 1))) xNo) (ag (ak aW (xSl (ac 1) (xPt (xC (.int 1))) xNo) (bg (ag (ac 2) xNil))) (ag (ak aW (xSl (ac 1) (xPt (xC (.int 1))) xNo) (bg (ag (xUn oNeg (xC (.int 1))) xNil))) (ag (ak aW (xSl (ac 1) xNo (xPt (ak g0 (ac 2) (xC (.int 1))))) (bg (ag (xC (.str "0")) xNil))) (ag (ak aW (ac 1) (xSl (ac 1) xNo (xPt (xC (.int 1))))) xNil))))))))
 (br 3 (ak aW (ac 3) (bg (ag (bN 1 [] (bW (ac 1)) (ws':=[]) (xNm 0) xTrue (ak oIx (bg (ag (ac 0) (ag (ak oGt (ac 0) (xC (.int 0))) xNil))) (xCb cInt (ag (ak oLt (ac 0) (xC (.int 2))) xNil)))) (ag (bN 1 [] (bW (ac 1)) (ws':=[]) (xNm 0) xTrue (ak aW (ac 0) (xC (.int 1)))) (ag (bg xNil) (ag (fR xNil) xNil)))))))) xSkip)
 (bR (ak oIx (ac 3) (aP bn (ag (ac 0) (ag (xCb fQ (ag (ac 3) xNil)) xNil))))))))
def cG:Fn:=cZ 4 2 dz
theorem kw{ds:List D}{s:Pen}(h:ds.length=2):cG.p ds s=(dz.p (dSt 4 ds) s).fin:=bS h
def hW:Xd [4]:=(aI (br 1 (aP bn (ag (ac 0) (ag (xC (.int 13)) xNil))))
 (aI (br 2 (aP hG (ag (ac 0) (ag (ac 1) xNil))))
 (aI (br 3 (aP i5 (ag (ac 0) (ag (ac 2) xNil))))
 (aI (ip 4 (bg (ag (ac 3) (ag (aP fc (ag (ac 0) (ag (ac 1) xNil))) (ag (xCb eZ (ag (ac 3) xNil)) xNil)))))
 (aI (xIf (xB (ak oGt (ac 1) (xC (.int 1)))) (aI (br 7 (aP bn (ag (ac 0) (ag (ak g0 (ac 1) (xC (.int 1))) xNil))))
 (nt 4 (ak aW (ak aW (xSl (ac 3) xNo (xPt (ac 7))) (bg (ag (ak oIx (ac 3) (ak aW (ac 7) (xC (.int 1)))) (ag (ak oIx (ac 3) (ac 7)) xNil)))) (xSl (ac 3) (xPt (ak aW (ac 7) (xC (.int 2)))) xNo)) (xC (.int 2)))) xSkip)
 (aI (br 5 (xCb eZ (ag (ac 2) xNil)))
 (xFz (ws':=[]) 4 (aI (m5 (bW (ac 4)) (xNm 6) (aI (br 8 (xCb eZ (ag (ac 6) xNil)))
 (aI (br 9 (aP cf (ag (ac 5) (ag (ac 8) xNil))))
 (aI (xIf (xOr (jb (xB (xUn (gK ["bool"]) (ac 9)))) (xOr (xB (ak oNe (ac 9) (aP eU (ag (ac 2) (ag (ac 6) xNil))))) (xOr (xB (ak oNe (ac 8) (ac 6))) (xB (ak oNe (ac 5) (ac 2)))))) (bR (xC (.bl false))) xSkip)
 (xIf (xB (ak oNe (aP cf (ag (ac 5) (ag (aP cG (ag (ac 0) (ag (ac 6) xNil))) xNil))) (xC (.str "order")))) (bR (xC (.bl false))) xSkip)))))
 (bR (ak (oIs false) (aP cf (ag (ac 5) (ag (ac 3) xNil))) (xC (.bl true))))))))))))
def eY:Fn:=cZ 10 1 hW
theorem qo{ds:List D}{s:Pen}(h:ds.length=1):eY.p ds s=(hW.p (dSt 10 ds) s).fin:=bS h
theorem oE:eY.m=du:=rfl
end
end Law
namespace Law
open PySem MM PU SetT SortT
open L2 (ixN atI fe)
set_option maxHeartbeats 1000000
theorem whole_p{i:Int}{s:Pen}:dQ.p [.int i] s=.ok (.bl true) s:=by
 rw[iM (by rfl)];unfold dP;simp[dSt,cz]
theorem place_p{n i:Int}{s:Pen}:cV.p [.int n,.int i] s=.ok (.bl (decide (0<=i) && decide (i<n))) s:=by
 rw[iJ (by rfl)];unfold dI;by_cases z:0<=i <;> simp[dSt,whole_p,z]
def fN(n:Int)(ks:List (List Int)):D:=.tup [.int n,.tup (ks.map kD)]
theorem kY(n:Nat):dB 0 n=(upto n).map .int:=by simp[dB,upto]
theorem tN(n:Nat):(upto n).Pairwise (·<=·):=by
 unfold upto;exact List.Pairwise.map (R:=fun a b:Nat=>a<b) _ (fun a b h=>by omega) qcn
theorem rT{ns:List Int}(hl:ns.length<64):pj.p [.lst (ns.map .int)]=some (.lst ((cN ns).map .int)):=by
 have e:∀ns:List Int,cH (ns.map .int)=some ns:=fun ns=>by
  induction ns with
  | nil=>rfl
  | cons i k ih=>rw[qaL,cH,ih];rfl
 show (lL (ns.map .int)).map _=_;simp only[lL,e];rw[qaf hl];rfl
theorem tS{qs:List Int}{n:Nat}(pm:qs.Perm (upto n)):cN qs=upto n:=iK (nT _) (tN n) ((dv qs).trans pm)
theorem iZ{ns:List Int}{j:Nat}(hj:j<=ns.length):cj (ns.map D.int) (some (j:Int)) none=(ns.drop j).map .int:=by
 unfold cj;rw[HT.i8,qaC,HT.kM,qcb hj,List.map_drop];exact qaW (by simp)
theorem fb{ds:List D}:(bP ds).length=ds.length:=by simp[bP]
theorem gS{ds:List D}{j:Nat}{d:D}(e:(bP ds)[j]?=some d):∃x,ds[j]?=some x/\d=.tup [.int (j:Int),x]:=by
 unfold bP at e;rw[qax,qbX] at e
 cases e1:ds[j]? with
 | none=>rw[e1] at e;cases e
 | some x=>rw[e1] at e;simp at e;exact⟨x,rfl,e.symm⟩
theorem ku{ws:List Nat}{env:aq}{s s1:Pen}{o:OpM}{i:Nat}{a:Xs ws}{hi:ws.contains i=true}{hz:a.fz=true}{as ds ds':List D}{r:D}(e1:a.p env s=.ok as s1)(e2:env[i]?=some (some (.lst ds)))(e3:o.p ds as=some (r,ds')):(xMt o i a hi hz).p env s=.nx (env.set i (some (.lst ds'))) s1:=by
 rw[xMt_p,sV e1 e2 e3]
theorem iV{ns:List Int}{j:Nat}{x:D}(e:(ns.map D.int)[j]?=some x):x=.int (ns.getD j 0)/\j<ns.length:=by
 rw[qax,qap] at e;obtain⟨i,e1,rfl⟩:=e;obtain⟨h1,h2⟩:=qab.mp e1;exact⟨by simp[List.getD,e1],h1⟩
structure Ord (n:Nat) (qs:List Int):Prop where
 n12:n<=12
 pm:qs.Perm (upto n)
theorem Ord.len{n:Nat}{qs:List Int}(o:Ord n qs):qs.length=n:=by have:=o.pm.length_eq;simpa [upto] using this
theorem Ord.bd{n:Nat}{qs:List Int}(o:Ord n qs):∀q∈qs,0<=q/\q<(n:Int):=fun q hq=>cO.mp (o.pm.mem_iff.mp hq)
theorem Ord.at{n:Nat}{qs:List Int}(o:Ord n qs){j:Nat}(hj:j<qs.length):0<=qs.getD j 0/\qs.getD j 0<(n:Int):=o.bd _ (by
 have:qs.getD j 0=qs[j]:=by simp[List.getD,hj]
 rw[this];exact qck hj)
theorem tJ{lo:Int}{c:Nat}:(dB lo c).length=c:=by simp[dB]
theorem t3{c i:Nat}{x:D}(h:(dB 0 c)[i]?=some x):x=.int (i:Int)/\i<c:=by
 unfold dB at h;rw[qax,qap] at h;obtain⟨k,hk,rfl⟩:=h;obtain⟨a,b⟩:=qab.mp hk;simp at a b;subst b;exact⟨by simp,a⟩
theorem pE{n:Nat}{s:Pen}(hn:n<=12):∃qs s',fc.p [.pen,.int n] s=.ok (.lst (qs.map .int)) s'/\Ord n qs:=by
 rw[qb (by rfl)];unfold g9;have e0:dSt 4 [D.pen,.int n]=[some .pen,some (.int n),none,none]:=rfl;obtain⟨env',s',e,z,qs,rfl,pm⟩:=ik (g:=(xNm 3:Xg [2]).p) (b:=(xMt kl 2 (ag (aP bn (ag (ac 0) (ag (ak aW (ac 3) (xC (.int 1))) xNil))) (ag (ac 3) xNil)):Xd [2]).p)
  (fun j env s'=>∃z qs,env=[some .pen,some (.int n),some (.lst ((qs:List Int).map .int)),z]/\qs.Perm (upto j)) (dB 0 n) 0 [some .pen,some (.int n),some (.lst []),none] s ⟨none,[],rfl,by simp[upto]⟩ (fun j env s' d ⟨z,qs,hE,pm⟩ hd=>by
   rw[qaZ] at pm ⊢;subst hE;obtain⟨rfl,hj⟩:=t3 hd;have hlq:qs.length=j:=by have:=pm.length_eq;simpa [upto] using this
   obtain⟨d,s1,d0,d1,qd⟩:=cY (s:=s') (size:=(j:Int)+1) (by omega) (by omega);obtain⟨k,rfl⟩:=bZ d0;refine⟨[some .pen,some (.int n),some (.lst (qs.map .int)),some (.int (j:Int))],[some .pen,some (.int n),some (.lst ((qs.take k++(j:Int)::qs.drop k).map .int)),some (.int (j:Int))],s1,rfl,?_,_,qs.take k++(j:Int)::qs.drop k,rfl,?_⟩
   ·rw[ku (s1:=s1) (as:=[.int (k:Int),.int (j:Int)]) (ds:=qs.map .int) (ds':=(qs.take k++(j:Int)::qs.drop k).map .int) (r:=.non) (by simp[qd]) rfl (by
     rw[rD (by simp;omega) (by simp;omega)];simp)]
    rfl
   ·have:(qs.take k++((j:Int))::qs.drop k).Perm (((j:Int))::qs):=by
     have:=qbD (a:=(j:Int)) (l₁:=qs.take k) (l₂:=qs.drop k)
     rwa [qba] at this
    refine this.trans ((pm.cons _).trans ?_);have e1:upto (j+1)=upto j++[(j:Int)]:=by simp[upto,List.range_succ]
    rw[e1]
    exact (List.perm_append_singleton _ _).symm)
 rw[tJ,qaZ] at pm;refine⟨qs,s',?_,hn,pm⟩;rw[e0,aG,fF];simp only[cC,aB,PR.bind_ok,qbh,qaG,if_true,PR.go_ok,qaq,qar,PU.av,aG,jU,nk,aC,az,aA];rw[iR1_i (by omega),qaT,PR.of_some,PR.go_ok,e,PU.av,j8 (d:=.lst (qs.map .int)) rfl,PU.dy]
theorem oR(n:Nat):(upto n).Pairwise (·<·):=by
 unfold upto;exact List.Pairwise.map (R:=fun a b:Nat=>a<b) _ (fun a b h=>by omega) qcn
def Kd(d:D):Prop:=∃t,tyD d=some t
def isI:D->Bool
 | .int _=>true
 | _=>false
def plB(n:Int):D->Bool
 | .int i=>decide (0<=i) && decide (i<n)
 | _=>false
theorem whole_k{d:D}{s:Pen}(h:Kd d):dQ.p [d] s=.ok (.bl (isI d)) s:=by
 rw[iM (by rfl)];unfold dP;obtain⟨t,ht⟩:=h;cases d <;> first | (cases ht;done) | (simp[dSt,cz,isI,tyD];done) | (simp[dSt,cz,isI,tyD] at ht ⊢)
theorem place_k{n:Int}{d:D}{s:Pen}(h:Kd d):cV.p [.int n,d] s=.ok (.bl (plB n d)) s:=by
 cases d with
 | int i=>exact place_p
 | _ =>
  rw[iJ (by rfl)];unfold dI;simp[dSt,whole_k h,isI,plB]
theorem kF:∀(bs:List Bool),g8 (bs.map .bl)=some bs
 | []=>rfl
 | b::bs=>by rw[qaL,g8,kF bs];rfl
theorem nE:∀{ds:List D},(∀d∈ds,isI d=true)->∃qs:List Int,ds=qs.map .int
 | [],_=>⟨[],rfl⟩
 | d::ds,h=>by
  obtain⟨qs,rfl⟩:=nE (ds:=ds) fun d hd=>h d (qak _ hd)
  have:=h d (by simp)
  cases d with
  | int i=>exact⟨i::qs,rfl⟩
  | _=>cases this
def IsO(n:Nat)(ds:List D):Prop:=∃qs:List Int,ds=qs.map .int/\qs.Perm (upto n)
open Classical in
noncomputable def bX(n:Nat):D->Bool
 | .lst ds=>decide (IsO n ds)
 | _=>false
theorem ph:∀{a b:List Int},a.map D.int=b.map D.int->a=b
 | [],[],_=>rfl
 | [],_::_,e=>by cases e
 | _::_,[],e=>by cases e
 | x::a,y::b,e=>by
  injection e with e1 e2
  injection e1 with e1
  rw[e1,ph e2]
theorem tQ{n:Nat}{qs:List Int}:IsO n (qs.map .int)↔cN qs=upto n:=by
 constructor
 ·rintro⟨ps,e,pm⟩;rw[ph e];exact tS pm
 ·intro h;exact⟨qs,rfl,by rw[<-h];exact (dv qs).symm⟩
def Th(d:D):Prop:=Kd d/\∀ds,d=.lst ds->ds.length<=60/\∀x∈ds,Kd x
theorem isl_k{d:D}{env:aq}{s:Pen}{i:Nat}(h:Kd d)(e:env[i]?=some (some d)):(xB (xUn (gK ["list"]) (ac i)):Xt []).p env s=.ok (match d with | .lst _=>true | _=>false) s:=by
 obtain⟨t,ht⟩:=h;simp only[ce,lV,kI e,PR.bind_ok,oIsi_p,ht,qbK,PR.of_some,PR.bl_ok];cases d <;> first | (cases ht;done) | (injection ht with ht;subst ht;simp[cz];done) | skip
theorem je{n:Nat}{ks:List (List Int)}{d:D}{s:Pen}(hn:n<=12)(h:Th d):gr.p [fN n ks,d] s=.ok (.bl (bX n d)) s:=by
 rw[oJ (by rfl)];unfold f9;rw[show dSt 2 [fN n ks,d]=[some (fN n ks),some d] from rfl];have tl:=isl_k (env:=[some (fN n ks),some d]) (s:=s) (i:=1) h.1 rfl;rw[aG,cw,nc,tl]
 cases d with
 | lst ds =>
  obtain⟨hl,hk⟩:=h.2 ds rfl;simp only[PR.bind_ok,qbr,PR.go_ok,qam,if_false,cr,PU.av];have q:=jN (ws:=[]) (ws':=[]) (env:=[some (fN n ks),some (.lst ds)]) (s:=s) (fm:=[0]) (i:=bW (ac 1)) (t:=xTrue) (e:=(aP cV (ag (ak oIx (ac 1) (xC (.int 0))) (ag (ac 0) xNil)))) (ds:=ds) (fun _=>true) (fun x=>.bl (plB n x)) (by simp) (by omega) (fun x hx=>⟨rfl,fun _=>by simp[fN,place_k (hk x hx)]⟩);rw[eV] at q;have e3:cAll.p [.lst (ds.map fun x=>.bl (plB n x))]=some (.bl ((ds.map (plB n)).all id)):=by
   show ((some (ds.map fun x=>D.bl (plB n x))).bind g8).map _=_
   have:(ds.map fun x=>D.bl (plB n x))=(ds.map (plB n)).map .bl:=by rw[qbl];rfl
   rw[this,qbU,kF];rfl
  rw[aG,cw,nc,ce,cu,aC,q];simp only[PR.bind_ok,aB,e3,PR.of_some,PR.bl_ok];by_cases z:∀x∈ds,plB n x=true
  ·have ea:(ds.map (plB n)).all id=true:=by rw[qbR];exact qbE.mpr fun x hx=>z x hx
   obtain⟨qs,rfl⟩:=nE (ds:=ds) fun x hx=>by
    have:=z x hx
    cases x with
    | int i=>rfl
    | _=>cases this
   simp only[ea,qbr,PR.go_ok,qam,if_false,cr,PU.av,fw,aS,cu,aC,az,aA,PR.bind_ok,aB];rw[rT (by rw[qaC] at hl;omega)];simp only[PR.of_some,PR.bind_ok,fN,bF,bA,oIx_t,atI_0,aB];rw[cLR_i (by omega),qaT,kY]
   have:decide (cN qs=upto n)=bX n (.lst (qs.map .int)):=by
    unfold bX;exact decide_eq_decide.mpr tQ.symm
   simp[d7,this]
  ·have ea:(ds.map (plB n)).all id=false:=by
    rw[qbR];refine Bool.eq_false_iff.mpr fun y=>z fun x hx=>qbE.mp y x hx
   have eo:bX n (.lst ds)=false:=by
    unfold bX;refine @decide_eq_false _ (_) fun ⟨qs,e,pm⟩=>z fun x hx=>?_;rw[e] at hx;obtain⟨i,hi,rfl⟩:=qbb.mp hx
    have:=cO.mp (pm.mem_iff.mp hi)
    simp[plB,this.1,this.2]
   simp[ea,eo]
 | _=>simp[bX]
def optD:Option Int->D
 | none=>.non
 | some i=>.int i
def upL(n:Nat)(u:Int->Option Int):List D:=(upto n).map fun v=>optD (u v)
theorem cT{n:Nat}{u:Int->Option Int}:(upL n u).length=n:=by simp[upL,upto]
theorem qg{n:Nat}{u:Int->Option Int}{x:Int}(h0:0<=x)(h1:x<n):atI (upL n u) x=some (optD (u x)):=by
 obtain⟨k,rfl⟩:=bZ h0;exact L2.bT (by simp[upL,upto,show k<n by omega])
theorem up_set{n:Nat}{u:Int->Option Int}{v w:Int}(h0:0<=v)(h1:v<n):(upL n u).set v.toNat (.int w)=upL n fun x=>if x=v then some w else u x:=by
 obtain⟨k,rfl⟩:=bZ h0;apply qbO;intro j;rw[List.getElem?_set];by_cases hj:j<n
 ·have e1:∀u:Int->Option Int,(upL n u)[j]?=some (optD (u (j:Int))):=fun u=>by simp[upL,upto,hj]
  rw[e1,e1,cT];by_cases z:k=j
  ·subst z;simp[hj,optD]
  ·have:¬((j:Int)=(k:Int)):=by omega
   simp[z,this]
 ·have e1:∀u:Int->Option Int,(upL n u)[j]?=none:=fun u=>by rw[qbB,cT];omega
  rw[e1,e1,cT]
  have:k≠j:=by omega
  simp[this]
structure Tr (n:Nat) (u:Int->Option Int):Prop where
 bd:∀v w,u v=some w->0<=w/\w<(n:Int)
 rk:∃r:Int->Nat,∀v w,u v=some w->r v<r w
theorem Tr.ne{n:Nat}{u:Int->Option Int}(t:Tr n u){v w:Int}(e:u v=some w):v≠w:=fun z=>by
 obtain⟨r,h⟩:=t.rk
 have:=h v w e
 rw[z] at this;omega
theorem above_p{n:Nat}{s:Pen}(hn:n<=12):∃u s',hG.p [.pen,.int n] s=.ok (.lst (upL n u)) s'/\Tr n u:=by
 rw[qF (by rfl)];unfold hZ;obtain⟨qs,s1,q1,o⟩:=pE (n:=n) (s:=s) hn;have ql:=o.len;have nd:qs.Nodup:=o.pm.symm.nodup ((oR n).imp fun h=>by omega);obtain⟨f,s2,f0,f1,qf⟩:=cY (s:=s1) (size:=3) (by decide) (by decide);obtain⟨d,ed,d0,d1⟩:∃d:Int,atI [D.int 1,.int 2,.int 6] f=some (.int d)/\0<d/\d<=6:=by
  have:f=0\/f=1\/f=2:=by omega
  rcases this with rfl|rfl|rfl
  ·exact⟨1,rfl,by decide,by decide⟩
  ·exact⟨2,rfl,by decide,by decide⟩
  ·exact⟨6,rfl,by decide,by decide⟩
 have q4:=jN (ws:=[4]) (ws':=[]) (env:=[some .pen,some (.int (n:Int)),some (.lst (qs.map .int)),some (.int d),none,none,none]) (s:=s2) (fm:=[]) (i:=bW (ac 2)) (t:=xTrue) (e:=xC .non) (ds:=qs.map .int) (fun _=>true) (fun _=>.non) (by simp) (by simp;omega) (fun x hx=>⟨rfl,fun _=>rfl⟩);have e4:((qs.map D.int).filter fun _=>true).map (fun _=>D.non)=upL n fun _=>none:=by
  rw[eV];apply List.ext_getElem
  ·simp[upL,upto,ql]
  ·intro j h1 h2;simp[upL,optD]
 rw[e4] at q4;obtain⟨env',s',e,u,z5,z6,rfl,hu⟩:=ik (g:=(xGp (xGc (xNm 5) (xGc (xNm 6) xGl)) 2:Xg [4]).p) (b:=(xIf (lY (xB (ak oLt (ak aW (ac 5) (xC (.int 1))) (ac 1))) (xB (ak oGt (aP bn (ag (ac 0) (ag (ak aW (ac 3) (xC (.int 1))) xNil))) (xC (.int 0))))) (nt 4 (ak oIx (ac 2) (ak aW (ak aW (ac 5) (xC (.int 1))) (aP bn (ag (ac 0) (ag (ak g0 (ak g0 (ac 1) (ac 5)) (xC (.int 1))) xNil))))) (ac 6)) xSkip:Xd [4]).p)
  (fun _ env _=>∃u z5 z6,env=[some .pen,some (.int (n:Int)),some (.lst (qs.map .int)),some (.int d),some (.lst (upL n u)),z5,z6]/\∀v w,u v=some w->∃i k:Nat,i<k/\qs[i]?=some v/\qs[k]?=some w) (bP (qs.map .int)) 0 [some .pen,some (.int (n:Int)),some (.lst (qs.map .int)),some (.int d),some (.lst (upL n fun _=>none)),none,none] s2 ⟨_,none,none,rfl,fun _ _ h=>nomatch h⟩ (fun j env s' x ⟨u,z5,z6,hE,hu⟩ hx=>by
   subst hE;obtain⟨y,hy,rfl⟩:=gS hx;obtain⟨rfl,hj⟩:=iV hy;have bj:=o.at hj;have ej:qs[j]?=some (qs.getD j 0):=by simp[List.getD,hj]
   by_cases z:(j:Int)+1<(n:Int)
   ·obtain⟨a,s3,a0,a1,qa⟩:=cY (s:=s') (size:=d+1) (by omega) (by omega);by_cases z2:0<a
    ·obtain⟨c,s4,c0,c1,qc⟩:=cY (s:=s3) (size:=(n:Int) - (j:Int) - 1) (by omega) (by omega);obtain⟨c,rfl⟩:=bZ c0;have hk:j+1+c<qs.length:=by omega
     have ea:atI (qs.map D.int) ((j:Int)+1+(c:Int))=some (.int (qs.getD (j+1+c) 0)):=by
      have:((j:Int)+1+(c:Int))=((j+1+c:Nat):Int):=by omega
      rw[this];exact L2.bT (by simp[List.getD,hk])
     have ix:ixN (upL n u).length (qs.getD j 0)=some (qs.getD j 0).toNat:=by
      obtain⟨k,hk⟩:=bZ bj.1;rw[hk,cT,km (by omega)];simp
     refine⟨[some .pen,some (.int (n:Int)),some (.lst (qs.map .int)),some (.int d),some (.lst (upL n u)),some (.int (j:Int)),some (.int (qs.getD j 0))],[some .pen,some (.int (n:Int)),some (.lst (qs.map .int)),some (.int d),some (.lst (upL n fun x=>if x=qs.getD j 0 then some (qs.getD (j+1+c) 0) else u x)),some (.int (j:Int)),some (.int (qs.getD j 0))],s4,by simp,?_,_,_,_,rfl,fun v w e=>?_⟩
     ·rw[cw];simp only[jK,ce,aS,az,aA,PR.bind_ok,bF,bA,dU,PR.of_some,nC,z,decide_true,PR.bl_ok,if_true,aU,aC,aB,qa,fC,show a>0 from z2,PR.go_ok];rw[rL,kQ (v:=.int (qs.getD (j+1+c) 0)) (s1:=s4) (j:=qs.getD j 0) (s2:=s4) (ds:=upL n u) (n:=(qs.getD j 0).toNat) (by simp only[aS,az,aA,PR.bind_ok,bF,bA,dU,kn,PR.of_some,aU,aC,aB,qc,dJ,ea]) (by simp) rfl ix,up_set bj.1 bj.2];rfl
     ·by_cases ze:v=qs.getD j 0
      ·rw[qaf ze] at e;injection e with e
       exact⟨j,j+1+c,by omega,by rw[ze];exact ej,by rw[<-e];simp[List.getD,hk]⟩
      ·rw[qai ze] at e;exact hu v w e
    ·refine⟨[some .pen,some (.int (n:Int)),some (.lst (qs.map .int)),some (.int d),some (.lst (upL n u)),some (.int (j:Int)),some (.int (qs.getD j 0))],[some .pen,some (.int (n:Int)),some (.lst (qs.map .int)),some (.int d),some (.lst (upL n u)),some (.int (j:Int)),some (.int (qs.getD j 0))],s3,by simp,?_,u,_,_,rfl,hu⟩;rw[cw];simp only[jK,ce,aS,az,aA,PR.bind_ok,bF,bA,dU,PR.of_some,nC,z,decide_true,PR.bl_ok,if_true,aU,aC,aB,qa,fC,show ¬a>0 from z2,decide_false,qam,if_false,PR.go_ok,cr]
   ·refine⟨[some .pen,some (.int (n:Int)),some (.lst (qs.map .int)),some (.int d),some (.lst (upL n u)),some (.int (j:Int)),some (.int (qs.getD j 0))],[some .pen,some (.int (n:Int)),some (.lst (qs.map .int)),some (.int d),some (.lst (upL n u)),some (.int (j:Int)),some (.int (qs.getD j 0))],s',by simp,?_,u,_,_,rfl,hu⟩;rw[cw]
    simp only[jK,ce,aS,az,aA,PR.bind_ok,bF,bA,dU,PR.of_some,nC,z,decide_false,PR.bl_ok,qam,if_false,PR.go_ok,cr])
 refine⟨u,s',?_,⟨fun v w h=>?_,⟨fun v=>qs.idxOf v,fun v w h=>?_⟩⟩⟩
 ·rw[show dSt 7 [D.pen,.int n]=[some .pen,some (.int (n:Int)),none,none,none,none,none] from rfl,aG,bo];simp only[aU,aC,az,aA,PR.bind_ok,aB,q1,PR.go_ok,qaq,qar,PU.av];rw[aG,bo];simp only[aS,cC,aC,bF,bA,PR.bind_ok,aB,qaM,qbh,show (0+1+1+1:Nat)<=100000 by decide,if_true,aU,az,aA,qf,dJ,ed,PR.of_some,PR.go_ok,qaq,qar,PU.av];rw[aG,fF,q4];simp only[PR.go_ok,qaq,qar,PU.av,aG,jU,nk,aC,az,aA,PR.bind_ok,aB,iE_l,PR.of_some];rw[e,PU.av,j8 (d:=.lst (upL n u)) rfl,PU.dy]
 ·obtain⟨_,k,_,_,ek⟩:=hu v w h;exact o.bd w (qaV ek)
 ·obtain⟨i,k,lt,ei,ek⟩:=hu v w h;have hi:=(qab.mp ei);have hk:=(qab.mp ek);obtain⟨hi1,hi2⟩:=hi;obtain⟨hk1,hk2⟩:=hk;show qs.idxOf v<qs.idxOf w;rw[<-hi2,<-hk2,nd.idxOf_getElem,nd.idxOf_getElem];exact lt
def Kp(u:Int->Option Int)(qs:List Int):Prop:=∀i v w,qs[i]?=some v->u v=some w->w∉qs.take i
noncomputable abbrev kpT:Xt [2,3]:=xB (ak oNe (ac 2) (bg xNil))
noncomputable abbrev kpC:Xe [2,3]:=(bN 1 [2,1] (bW (ac 2)) (ws':=[1]) (xNm 0) (xB (ak nK (bN 1 [0,2] (bW (ac 1)) (ws':=[]) (xNm 0) (xB (ak oEq (ak oIx (ac 2) (ac 0)) (ac 1))) (ac 0)) (bg xNil))) (ac 0))
noncomputable abbrev kpB:Xd [2,3]:=(aI (br 4 kpC)
 (aI (br 5 (ak oIx (ac 4) (aP bn (ag (ac 0) (ag (xCb fQ (ag (ac 4) xNil)) xNil)))))
 (aI (xMt kC 3 (ag (ac 5) xNil))
 (xMt oN 2 (ag (ac 5) xNil)))))
theorem sG:∀{ls:List Int} {v:Int},v∈ls->∃j,fg v ls=some j/\ls[j]?=some v
 | [],v,h=>nomatch h
 | x::ls,v,h=>by
  unfold fg;by_cases z:x=v
  ·exact⟨0,by rw[qaf z],by simp[z]⟩
  ·obtain⟨j,e,hj⟩:=sG (ls:=ls) (v:=v) ((qan.mp h).elim (fun e=>absurd e.symm z) id);exact⟨j+1,by rw[qai z,e];rfl,by simpa using hj⟩
theorem mG:∀(ns:List Int),cH (ns.map .int)=some ns
 | []=>rfl
 | i::ns=>by rw[qaL,cH,mG ns];rfl
theorem eqD_ni{neg:Bool}{i:Int}:eqD neg .non (.int i)=some (.bl neg):=by
 cases neg <;> simp[eqD,py,dep,SeqAt.shaped,PyData.canLay0,PyData.depth,PyData.eqv]
def frI(u:Int->Option Int)(ls:List Int)(v:Int):Bool:=(ls.filter fun x=>decide (u x=some v)).isEmpty
def frB(u:Int->Option Int)(ls:List Int):D->Bool
 | .int v=>frI u ls v
 | _=>false
def inB(u:Int->Option Int)(v:Int):D->Bool
 | .int x=>decide (u x=some v)
 | _=>false
theorem free_q{n:Nat}{u:Int->Option Int}{ls:List Int}{env:aq}{s:Pen}(hb:∀v∈ls,0<=v/\v<(n:Int))(hl:ls.length<=12)(e1:env[1]?=some (some (.lst (upL n u))))(e2:env[2]?=some (some (.lst (ls.map .int)))):kpC.p env s=.ok (.lst ((ls.filter (frI u ls)).map .int)) s:=by
 have q:=jN (ws:=[2,3]) (ws':=[1]) (env:=env) (s:=s) (fm:=[2,1]) (i:=bW (ac 2)) (t:=(xB (ak nK (bN 1 [0,2] (bW (ac 1)) (ws':=[]) (xNm 0) (xB (ak oEq (ak oIx (ac 2) (ac 0)) (ac 1))) (ac 0)) (bg xNil)))) (e:=ac 0) (ds:=ls.map .int) (frB u ls) (fun x=>x) (by rw[ng,kI e2];rfl) (by simp;omega) (fun x hx=>by
   obtain⟨v,hv,rfl⟩:=qbb.mp hx;refine⟨?_,fun _=>rfl⟩
   have q2:=jN (ws:=[1]) (ws':=[]) (env:=some (.int v)::[2,1].map fun i=>(env[i]?).getD none) (s:=s) (fm:=[0,2]) (i:=bW (ac 1)) (t:=(xB (ak oEq (ak oIx (ac 2) (ac 0)) (ac 1)))) (e:=ac 0) (ds:=ls.map .int) (inB u v) (fun x=>x) (by simp[e2]) (by simp;omega) (fun y hy=>by
    obtain⟨x,hx,rfl⟩:=qbb.mp hy;refine⟨?_,fun _=>by simp⟩;have b:=hb x hx;have ea:=qg (u:=u) b.1 b.2;simp only[qaL,qbH,e1,Option.getD_some,ce,aS,List.getElem?_cons_zero,qci,az,aA,PR.bind_ok,dJ,ea,PR.of_some,oEq_p]
    cases z:u x with
    | none=>rw[show optD none=D.non from rfl,eqD_ni];simp[inB,z]
    | some w=>rw[show optD (some w)=D.int w from rfl,eqD_ii];simp[inB,z])
   have e3:((ls.map D.int).filter (inB u v)).map (fun x=>x)=(ls.filter fun x=>decide (u x=some v)).map .int:=by
    rw[List.filter_map,qbl];rfl
   rw[e3] at q2;rw[ce,aS,q2];simp only[PR.bind_ok,cC,aB,qbh,qaG,if_true];show _=PR.ok (frI u ls v) s;unfold frI
   cases hd:ls.filter fun x=>decide (u x=some v) with
   | nil =>
    rw[qbH,eqL_eq rfl]
    have:=d7 (neg:=false) (xs:=[]) (ys:=[])
    rw[qbH] at this;rw[this];rfl
   | cons k ks=>rw[eqL_ne (by simp)];rfl)
 have e3:((ls.map D.int).filter (frB u ls)).map (fun x=>x)=(ls.filter (frI u ls)).map .int:=by
  rw[List.filter_map,qbl];rfl
 rw[e3] at q;exact q
theorem nR(r:Int->Nat):∀(ls:List Int),ls≠[]->∃v∈ls,∀x∈ls,r v<=r x
 | [],h=>absurd rfl h
 | [a],_=>⟨a,by simp,by simp⟩
 | a::b::ls,_=>by
  obtain⟨v,hv,h⟩:=nR r (b::ls) (by simp);by_cases z:r a<=r v
  ·exact⟨a,by simp,fun x hx=>by
    rcases qan.mp hx with rfl|hx
    ·omega
    ·have:=h x hx;omega⟩
  ·exact⟨v,qak _ hv,fun x hx=>by
    rcases qan.mp hx with rfl|hx
    ·omega
    ·exact h x hx⟩
theorem free_ne{n:Nat}{u:Int->Option Int}{ls:List Int}(t:Tr n u)(h:ls≠[]):ls.filter (frI u ls)≠[]:=by
 obtain⟨r,hr⟩:=t.rk;obtain⟨v,hv,hm⟩:=nR r ls h;refine List.ne_nil_of_mem (a:=v) (qbw.mpr ⟨hv,?_⟩);unfold frI;rw[List.isEmpty_iff,qco];intro x hx;simp only[decide_eq_true_eq];intro e
 have:=hr x v e
 have:=hm x hx
 omega
theorem tE{n:Nat}{u:Int->Option Int}(t:Tr n u)(hn:n<=12):∀(d N:Nat) (ls fs:List Int) (z4 z5:Option D) (s:Pen),ls.length=d->d+1<=N->(fs++ls).Perm (upto n)->Kp u fs->(∀w∈fs,∀v∈ls,u v≠some w) ->
  ∃gs y4 y5 s',gZ kpT.p kpB.p N [some .pen,some (.lst (upL n u)),some (.lst (ls.map .int)),some (.lst (fs.map .int)),z4,z5] s=.nx [some .pen,some (.lst (upL n u)),some (.lst []),some (.lst (gs.map .int)),y4,y5] s'/\gs.Perm (upto n)/\Kp u gs:=by
 intro d
 induction d with
 | zero =>
  intro N ls fs z4 z5 s hl hN pm kp no
  have:ls=[]:=qbL.mp hl
  subst this;obtain⟨N,rfl⟩:∃k,N=k+1:=⟨N - 1,by omega⟩;refine⟨fs,z4,z5,s,?_,by simpa using pm,kp⟩;have en:=d7 (neg:=true) (xs:=[]) (ys:=[]);rw[qbH] at en;have tt:kpT.p [some .pen,some (.lst (upL n u)),some (.lst (([]:List Int).map .int)),some (.lst (fs.map .int)),z4,z5] s=.ok false s:=by
   simp only[ce,aS,az,aA,PR.bind_ok,cC,aB,qbh,qaG,if_true,qbH,lU,en,PR.of_some,PR.bl_ok,decide_true,qbr]
  rw[gZ,tt,PR.go_ok,qai qaI];rfl
 | succ d ih =>
  intro N ls fs z4 z5 s hl hN pm kp no;obtain⟨N,rfl⟩:∃k,N=k+1:=⟨N - 1,by omega⟩;have lne:ls≠[]:=fun z=>by rw[z] at hl;cases hl
  have tot:fs.length+ls.length=n:=by have:=pm.length_eq;simpa [upto] using this
  have hb:∀v∈ls,0<=v/\v<(n:Int):=fun v hv=>cO.mp (pm.mem_iff.mp (qac _ hv));have fne:=free_ne t lne;have fl:0<(ls.filter (frI u ls)).length:=List.length_pos_iff.mpr fne;have fl2:(ls.filter (frI u ls)).length<=ls.length:=List.length_filter_le _ _;obtain⟨c,s1,c0,c1,qc⟩:=cY (s:=s) (size:=((ls.filter (frI u ls)).length:Int)) (by omega) (by omega);obtain⟨c,rfl⟩:=bZ c0;have hc:c<(ls.filter (frI u ls)).length:=by omega
  generalize hv:(ls.filter (frI u ls))[c]=v;have ea:atI ((ls.filter (frI u ls)).map D.int) (c:Int)=some (.int v):=L2.bT (by simp[hc,hv]);have vm:v∈ls.filter (frI u ls):=by rw[<-hv];exact qck hc
  obtain⟨vl,vf⟩:=qbw.mp vm;have nof:∀x∈ls,u x≠some v:=fun x hx e=>by
   unfold frI at vf;rw[List.isEmpty_iff,qco] at vf;exact vf x hx (by simpa using e)
  obtain⟨j,ej,hj⟩:∃j,fg v ls=some j/\ls[j]?=some v:=sG vl;have hjl:=(qab.mp hj);obtain⟨hj1,hj2⟩:=hjl;have pe:(v::ls.eraseIdx j).Perm ls:=by
   rw[List.eraseIdx_eq_take_drop_succ];have e2:ls=ls.take j++v::ls.drop (j+1):=by
    rw[<-hj2,<-qaQ hj1,qba]
   exact (qbD (a:=v) (l₁:=ls.take j) (l₂:=ls.drop (j+1))).symm.trans (by rw[<-e2])
  have el:(ls.eraseIdx j).length=d:=by have:=pe.length_eq;simp at this;omega
  obtain⟨gs,y4,y5,s',q,pg,kg⟩:=ih N (ls.eraseIdx j) (fs++[v]) (some (.lst ((ls.filter (frI u ls)).map .int))) (some (.int v)) s1 el (by omega) (by
   have:(fs++[v]++ls.eraseIdx j)=fs++(v::ls.eraseIdx j):=by simp
   rw[this]
   exact (List.Perm.append_left fs pe).trans pm) (fun i x w hi hx=>by
   by_cases z:i<fs.length
   ·rw[qaj z] at hi;rw[qbV (by omega)];exact kp i x w hi hx
   ·by_cases z2:i=fs.length
    ·subst z2;rw[qau (by omega)] at hi
     have:v=x:=by simpa using hi
     subst this;rw[qbV (by omega),List.take_length];exact fun m=>no w m v vl hx
    ·rw[qau (by omega)] at hi
     have:=(qab.mp hi).1
     simp at this
     omega) (fun w hw x hx e=>by
   have xl:x∈ls:=pe.mem_iff.mp (qak _ hx);rcases qav.mp hw with hw|hw
   ·exact no w hw x xl e
   ·have:w=v:=by simpa using hw
    subst this
    exact nof x xl e)
  refine⟨gs,y4,y5,s',?_,pg,kg⟩;have en:=d7 (neg:=true) (xs:=ls) (ys:=[]);rw[qbH] at en;have tt:kpT.p [some .pen,some (.lst (upL n u)),some (.lst (ls.map .int)),some (.lst (fs.map .int)),z4,z5] s=.ok true s:=by
   simp only[ce,aS,az,aA,PR.bind_ok,cC,aB,qbh,qaG,if_true,lU,en,PR.of_some,PR.bl_ok,lne,decide_false,Bool.not_false]
  have bb:kpB.p [some .pen,some (.lst (upL n u)),some (.lst (ls.map .int)),some (.lst (fs.map .int)),z4,z5] s=.nx [some .pen,some (.lst (upL n u)),some (.lst ((ls.eraseIdx j).map .int)),some (.lst ((fs++[v]).map .int)),some (.lst ((ls.filter (frI u ls)).map .int)),some (.int v)] s1:=by
   rw[aG,bo,free_q hb (by omega) rfl rfl];simp only[PR.go_ok,qaq,qar,PU.av];rw[aG,bo];simp only[aS,az,aA,PR.bind_ok,aU,aC,cu,aB,d3,qaC,PR.of_some,qc,dJ,ea,PR.go_ok,qaq,qar,PU.av];rw[aG,ku (s1:=s1) (as:=[.int v]) (ds:=fs.map .int) (ds':=(fs++[v]).map .int) (r:=.non) (by simp) rfl (by rw[rn (by simp;omega)];simp),PU.av];simp only[qaq,qar]
   rw[ku (s1:=s1) (as:=[.int v]) (ds:=ls.map .int) (ds':=(ls.eraseIdx j).map .int) (r:=.non) (by simp) rfl (by
    show (cH (ls.map .int)).bind _=_
    rw[mG,qbU,ej];rfl)]
   rfl
  rw[gZ,tt,PR.go_ok,qaf rfl,bb];exact q
theorem kept_p{n:Nat}{u:Int->Option Int}{s:Pen}(t:Tr n u)(hn:n<=12):∃gs s',i5.p [.pen,.lst (upL n u)] s=.ok (.lst (gs.map .int)) s'/\Ord n gs/\Kp u gs:=by
 obtain⟨gs,y4,y5,s',q,pg,kg⟩:=tE t hn n 400 (upto n) [] none none s (by simp[upto]) (by omega) (by simp) (fun i v w h=>by simp at h) (fun w hw=>nomatch hw);refine⟨gs,s',?_,⟨hn,pg⟩,kg⟩;rw[su (by rfl)];unfold i6;rw[show dSt 6 [D.pen,.lst (upL n u)]=[some .pen,some (.lst (upL n u)),none,none,none,none] from rfl,aG,fF];simp only[cu,aC,az,aA,PR.bind_ok,aB,d3,cT,PR.of_some,cLR_i (i:=(n:Int)) (by omega),qaT,kY,PR.go_ok,qaq,qar,PU.av];rw[aG,fF];simp only[cC,aB,PR.bind_ok,qbh,qaG,if_true,PR.go_ok,qaq,qar,PU.av];rw[aG];refine (congrArg (fun z:PS=>(z.then _).fin) q).trans ?_;rw[PU.av,j8 (d:=.lst (gs.map .int)) rfl,PU.dy]
def keI(u:Int->Option Int)(qs:List Int)(i:Nat)(v:Int):Bool:=match u v with
 | none=>true
 | some w=>!decide (w∈qs.take i)
def hoI(u:Int->Option Int)(qs:List Int)(i:Nat)(v:Int):Bool:=match u v with
 | none=>true
 | some w=>decide (w∈qs.drop (i+1))
def keB(u:Int->Option Int)(qs:List Int):Bool:=((List.range qs.length).map fun i=>keI u qs i (qs.getD i 0)).all id
theorem ke_ho{n:Nat}{u:Int->Option Int}{qs:List Int}(t:Tr n u)(o:Ord n qs){i:Nat}(hi:i<qs.length):keI u qs i (qs.getD i 0)=hoI u qs i (qs.getD i 0):=by
 have nd:qs.Nodup:=o.pm.symm.nodup ((oR n).imp fun h=>by omega);unfold keI hoI
 cases e:u (qs.getD i 0) with
 | none=>rfl
 | some w =>
  have ne:=t.ne e;have wm:w∈qs:=o.pm.mem_iff.mpr (cO.mpr (t.bd _ _ e));have e2:qs=qs.take i++qs.getD i 0::qs.drop (i+1):=by
   have:qs.getD i 0=qs[i]:=by simp[List.getD,hi]
   rw[this,<-qaQ hi,qba]
  have nd2:=nd;rw[e2] at wm nd2;dsimp only;rcases qav.mp wm with h|h
  ·have:w∉qs.drop (i+1):=fun z=>(qcg.mp nd2).2.2 w h w (qak _ z) rfl
   simp[h,this]
  ·rcases qan.mp h with h|h
   ·exact absurd h.symm ne
   ·have:w∉qs.take i:=fun z=>(qcg.mp nd2).2.2 w z w (qak _ h) rfl
    simp[h,this]
theorem kp_ke{u:Int->Option Int}{qs:List Int}(k:Kp u qs):keB u qs=true:=by
 unfold keB;rw[qbR,qbE];intro i hi;rw[qbu] at hi;show keI u qs i (qs.getD i 0)=true;unfold keI
 cases e:u (qs.getD i 0) with
 | none=>rfl
 | some w =>
  have:=k i _ w (by simp[List.getD,hi]) e
  simp[this]
theorem inD_non{neg:Bool}{xs:List Int}:inD neg .non (.lst (xs.map .int))=some (.bl neg):=by
 obtain⟨a,b⟩:=eK xs;have e:(D.lst (xs.map .int)).items=some (xs.map .int):=rfl;simp only[inD,e,py,a];rw[qaf ⟨⟨by simp[dep],by omega⟩,rfl,(eB xs).1⟩]
 have:((xs.map PyData.int).any fun y=>PyData.eqv .none y)=false:=by
  rw[List.any_eq_false];intro y hy;obtain⟨i,_,rfl⟩:=qbb.mp hy;simp[PyData.eqv]
 first
  | (rw[this];cases neg <;> rfl)
  | (simp[PyData.eqv];done)
  | (cases neg <;> simp[PyData.eqv])
theorem keeps_p{n:Nat}{u:Int->Option Int}{qs:List Int}{s:Pen}(o:Ord n qs):fL.p [.lst (upL n u),.lst (qs.map .int)] s=.ok (.bl (keB u qs)) s:=by
 have hn:=o.n12;have ql:=o.len
 have th:Th (.lst (qs.map .int)):=⟨⟨_,rfl⟩,fun ds e=>by
  cases e;refine⟨by simp;omega,fun x hx=>?_⟩;obtain⟨i,_,rfl⟩:=qbb.mp hx
  exact⟨_,rfl⟩⟩
 have ob:bX n (.lst (qs.map .int))=true:=by
  unfold bX;exact @decide_eq_true _ (_) ⟨qs,rfl,o.pm⟩
 have ck:bI.p [fN n [],.lst (qs.map .int)] s=.ok .non s:=by
  rw[fE (by rfl)];unfold cF;simp[dSt,je hn th,ob]
 have ck':bI.p [.tup [.int (n:Int),.tup []],.lst (qs.map .int)] s=.ok .non s:=ck
 have q:=comp2 (ws:=[]) (ws':=[]) (env:=[some (.lst (upL n u)),some (.lst (qs.map .int))]) (s:=s) (fm:=[0,1]) (i:=kH iE (ag (ac 1) xNil)) (t:=xTrue) (e:=(ak (oIn true) (ak oIx (ac 2) (ac 1)) (xSl (ac 3) xNo (xPt (ac 0))))) (ds:=bP (qs.map .int)) (fun _=>true) (fun x=>match x with | .tup [.int k,.int v]=>.bl (keI u qs k.toNat v) | _=>.non) (by simp) (by rw[fb];simp;omega) (fun x hx=>by
  obtain⟨j,hj⟩:=qaE.mp hx;obtain⟨y,hy,rfl⟩:=gS hj;obtain⟨rfl,hjl⟩:=iV hy;refine⟨_,_,rfl,rfl,fun _=>?_⟩;have bj:=o.at hjl;have ea:=qg (u:=u) bj.1 bj.2;have c1:cj (qs.map D.int) none (some (j:Int))=(qs.take j).map .int:=by
   unfold cj;rw[HT.i8,qaC,HT.kM,qcb (by omega),qbP,qcw,List.map_take]
  show (ak (oIn true) (ak oIx (ac 2) (ac 1)) (xSl (ac 3) xNo (xPt (ac 0))):Xe []).p [some (.int (j:Int)),some (.int (qs.getD j 0)),some (.lst (upL n u)),some (.lst (qs.map .int))] s=_;simp only[aS,az,aA,PR.bind_ok,dJ,ea,PR.of_some,lO,lS,lN,lM,c1,oIn_p,qaT,keI]
  cases e:u (qs.getD j 0) with
  | none=>rw[show optD none=D.non from rfl,inD_non];rfl
  | some w=>rw[show optD (some w)=D.int w from rfl,rZ (d:=.lst ((qs.take j).map .int)) rfl];rfl)
 have ee:((bP (qs.map D.int)).filter fun _=>true).map (fun x=>match x with | .tup [.int k,.int v]=>D.bl (keI u qs k.toNat v) | _=>.non)=((List.range qs.length).map fun i=>keI u qs i (qs.getD i 0)).map .bl:=by
  rw[eV];apply qbO;intro j;rw[qax,qbl,qax];by_cases hj:j<qs.length
  ·have e1:(bP (qs.map D.int))[j]?=some (.tup [.int (j:Int),.int (qs.getD j 0)]):=by
    unfold bP;rw[qax,qbX,qax,qaB hj];simp[List.getD,hj]
   rw[e1];simp[hj]
  ·have e1:(bP (qs.map D.int))[j]?=none:=by rw[qbB,fb];simp;omega
   rw[e1];simp[hj]
 rw[ee] at q;have e3:cAll.p [.lst (((List.range qs.length).map fun i=>keI u qs i (qs.getD i 0)).map .bl)]=some (.bl (keB u qs)):=by
  show ((some _).bind g8).map _=_;rw[qbU,kF];rfl
 rw[mL (by rfl)];unfold iA;rw[show dSt 2 [D.lst (upL n u),.lst (qs.map .int)]=[some (.lst (upL n u)),some (.lst (qs.map .int))] from rfl,aG,pF];simp only[aU,aC,mT,cu,az,aA,PR.bind_ok,aB,d3,cT,PR.of_some,qbh,qaG,if_true,qaM,show (0+1+1:Nat)<=100000 by decide,ck',PR.go_ok,PU.av];rw[fw,cu,aC,q];simp only[PR.bind_ok,aB,e3,PR.of_some,PR.go_ok,PU.dy]
theorem sP{n:Nat}{u:Int->Option Int}{d:D}{s:Pen}(hn:n<=12)(h:Th d)(hb:bX n d=false):fL.p [.lst (upL n u),d] s=.exc "NoOrder" s:=by
 have c:bI.p [fN n [],d] s=.exc "NoOrder" s:=by
  rw[fE (by rfl)];unfold cF;simp[dSt,je hn h,hb]
 have c':bI.p [.tup [.int (n:Int),.tup []],d] s=.exc "NoOrder" s:=c;rw[mL (by rfl)];unfold iA;rw[show dSt 2 [D.lst (upL n u),d]=[some (.lst (upL n u)),some d] from rfl,aG,pF];simp only[aU,aC,mT,cu,az,aA,PR.bind_ok,aB,d3,cT,PR.of_some,qbh,qaG,if_true,qaM,show (0+1+1:Nat)<=100000 by decide,c'];rfl
noncomputable abbrev tdB:Xd []:=(br 3 (aP fL (ag (ac 0) (ag (ac 1) xNil))))
theorem kind_o{s:Pen}:i0.p [.exc "NoOrder"] s=.ok (.str "order") s:=by
 rw[sw (by rfl)];unfold iU;rw[show dSt 3 [D.exc "NoOrder"]=[some (.exc "NoOrder"),none,none] from rfl];rfl
theorem rM{n:Nat}{u:Int->Option Int}{qs:List Int}{s:Pen}(o:Ord n qs):cf.p [.lst (upL n u),.lst (qs.map .int)] s=.ok (.bl (keB u qs)) s:=by
 rw[kS (by rfl)];unfold fZ;rw[show dSt 5 [D.lst (upL n u),.lst (qs.map .int)]=[some (.lst (upL n u)),some (.lst (qs.map .int)),none,none,none] from rfl,aG,bo];simp only[bF,eD,PR.go_ok,qaq,qar,PU.av];rw[aG,bo];simp only[bF,eD,PR.go_ok,qaq,qar,PU.av];rw[aG];have h:tdB.p [some (.lst (upL n u)),some (.lst (qs.map .int)),some .non,some .non,none] s=.nx [some (.lst (upL n u)),some (.lst (qs.map .int)),some .non,some (.bl (keB u qs)),none] s:=by
  rw[bo];simp only[aU,aC,az,aA,PR.bind_ok,aB,keeps_p o,PR.go_ok,qaq,qar]
 have t:(xTry ["NoOrder"] 2 4 tdB:Xd []).p [some (.lst (upL n u)),some (.lst (qs.map .int)),some .non,some .non,none] s=.nx [some (.lst (upL n u)),some (.lst (qs.map .int)),some .non,some (.bl (keB u qs)),none] s:=by
  show (match tdB.p _ s with | .exc c e s=>_ | .rse _ _ _=>_ | r=>r)=_;rw[h]
 rw[t];simp[oIs]
theorem t6{n:Nat}{u:Int->Option Int}{d:D}{s:Pen}(hn:n<=12)(h:Th d)(hb:bX n d=false):cf.p [.lst (upL n u),d] s=.ok (.str "order") s:=by
 rw[kS (by rfl)];unfold fZ;rw[show dSt 5 [D.lst (upL n u),d]=[some (.lst (upL n u)),some d,none,none,none] from rfl,aG,bo];simp only[bF,eD,PR.go_ok,qaq,qar,PU.av];rw[aG,bo];simp only[bF,eD,PR.go_ok,qaq,qar,PU.av];rw[aG];have e:tdB.p [some (.lst (upL n u)),some d,some .non,some .non,none] s=.exc "NoOrder" [some (.lst (upL n u)),some d,some .non,some .non,none] s:=by
  rw[bo];simp only[aU,aC,az,aA,PR.bind_ok,aB,sP hn h hb];rfl
 have t:(xTry ["NoOrder"] 2 4 tdB:Xd []).p [some (.lst (upL n u)),some d,some .non,some .non,none] s=.nx [some (.lst (upL n u)),some d,some (.exc "NoOrder"),some .non,none] s:=by
  show (match tdB.p _ s with | .exc c e s=>_ | .rse _ _ _=>_ | r=>r)=_;rw[e];dsimp only;rw[qaf (by simp)];rfl
 rw[t,PU.av,aG,cw];simp only[ce,aS,az,aA,PR.bind_ok,bF,eD,show (oIs false).p (.exc "NoOrder") .non=some (.bl false) from rfl,PR.of_some,PR.bl_ok,PR.go_ok,qam,if_false,cr,PU.av,fw,aU,aC,aB,kind_o,PU.dy]
noncomputable abbrev hoX:Xd []:=(xIf (lY (xB (ak (oIs true) (ak oIx (ac 0) (ac 3)) (xC .non))) (xB (ak (oIn true) (ak oIx (ac 0) (ac 3)) (xSl (ac 1) (xPt (ak aW (ac 2) (xC (.int 1)))) xNo)))) (bR (xC (.bl false))) xSkip)
theorem tW{n:Nat}{u:Int->Option Int}{qs:List Int}{s:Pen}(o:Ord n qs):∀(k j:Nat) (z2 z3:Option D),j+k=qs.length ->
  (∃y2 y3,pGo (xGp (xGc (xNm 2) (xGc (xNm 3) xGl)) 2:Xg []).p hoX.p ((bP (qs.map .int)).drop j) [some (.lst (upL n u)),some (.lst (qs.map .int)),z2,z3] s=.nx [some (.lst (upL n u)),some (.lst (qs.map .int)),y2,y3] s/\∀i,j<=i->i<qs.length->hoI u qs i (qs.getD i 0)=true) \/
  (pGo (xGp (xGc (xNm 2) (xGc (xNm 3) xGl)) 2:Xg []).p hoX.p ((bP (qs.map .int)).drop j) [some (.lst (upL n u)),some (.lst (qs.map .int)),z2,z3] s=.rt (.bl false) s/\∃i,i<qs.length/\hoI u qs i (qs.getD i 0)=false):=by
 intro k
 induction k with
 | zero =>
  intro j z2 z3 hj;rw[qbd (by rw[fb];simp;omega)];exact .inl ⟨z2,z3,rfl,fun i h1 h2=>by omega⟩
 | succ k ih =>
  intro j z2 z3 hj;have hjl:j<qs.length:=by omega
  have el:j<(bP (qs.map D.int)).length:=by rw[fb];simpa using hjl
  obtain⟨y,hy,ed⟩:=gS (ds:=qs.map .int) (j:=j) (d:=(bP (qs.map D.int))[j]) (qaB el);obtain⟨rfl,_⟩:=iV hy;have bj:=o.at hjl;have ea:=qg (u:=u) bj.1 bj.2;have ql:=o.len;have c1:cj (qs.map D.int) (some ((j:Int)+1)) none=(qs.drop (j+1)).map .int:=by
   have:=iZ (ns:=qs) (j:=j+1) (by omega)
   push_cast at this;exact this
  rw[qaQ el,ed,nD (env1:=[some (.lst (upL n u)),some (.lst (qs.map .int)),some (.int (j:Int)),some (.int (qs.getD j 0))]) (by simp)];have b:hoX.p [some (.lst (upL n u)),some (.lst (qs.map .int)),some (.int (j:Int)),some (.int (qs.getD j 0))] s=if hoI u qs j (qs.getD j 0)=true then .nx [some (.lst (upL n u)),some (.lst (qs.map .int)),some (.int (j:Int)),some (.int (qs.getD j 0))] s else .rt (.bl false) s:=by
   unfold hoI;rw[cw];simp only[jK,ce,aS,az,aA,PR.bind_ok,dJ,ea,PR.of_some,bF,eD,bA,lO,lN,lS,dU,lM,c1,oIn_p]
   cases e:u (qs.getD j 0) with
   | none=>simp[optD,oIs]
   | some w =>
    rw[show optD (some w)=D.int w from rfl,rZ (d:=.lst ((qs.drop (j+1)).map .int)) rfl];by_cases z:w∈qs.drop (j+1) <;> simp[oIs,z]
  rw[b];by_cases z:hoI u qs j (qs.getD j 0)=true
  ·rw[qaf z];rcases ih (j+1) (some (.int (j:Int))) (some (.int (qs.getD j 0))) (by omega) with ⟨y2,y3,e,h⟩|⟨e,h⟩
   ·exact .inl ⟨y2,y3,e,fun i h1 h2=>by
     by_cases zi:i=j
     ·rw[zi];exact z
     ·exact h i (by omega) h2⟩
   ·exact .inr ⟨e,h⟩
  ·rw[qai z];exact .inr ⟨rfl,j,hjl,by simpa using z⟩
theorem holds_p{n:Nat}{u:Int->Option Int}{qs:List Int}{s:Pen}(t:Tr n u)(o:Ord n qs):eU.p [.lst (upL n u),.lst (qs.map .int)] s=.ok (.bl (keB u qs)) s:=by
 rw[qm (by rfl)];unfold hJ;rw[show dSt 4 [D.lst (upL n u),.lst (qs.map .int)]=[some (.lst (upL n u)),some (.lst (qs.map .int)),none,none] from rfl,aG,jU,nk,aC];simp only[az,aA,PR.bind_ok,aB,iE_l,PR.of_some,PR.go_ok];rcases tW (u:=u) (s:=s) o qs.length 0 none none (by omega) with ⟨y2,y3,e,h⟩|⟨e,i,hi,h⟩
 ·rw[qbP] at e
  have:keB u qs=true:=by
   unfold keB;rw[qbR,qbE];intro i hi;rw[qbu] at hi;show keI u qs i (qs.getD i 0)=true;rw[ke_ho t o hi];exact h i (by omega) hi
  rw[this];refine (congrArg (fun z:PS=>(z.then _).fin) e).trans ?_;rfl
 ·rw[qbP] at e
  have:keB u qs=false:=by
   unfold keB;rw[qbR,List.all_eq_false];refine⟨i,qbu.mpr hi,?_⟩;show ¬keI u qs i (qs.getD i 0)=true;rw[ke_ho t o hi,h];simp
  rw[this];refine (congrArg (fun z:PS=>(z.then _).fin) e).trans ?_;rfl
theorem gH{i:Int}:Kd (.int i):=⟨_,rfl⟩
theorem rl{ds:List D}{i:Int}(h0:0<=i)(h1:i<(ds.length:Int)):∃d,atI ds i=some d/\d∈ds:=by
 obtain⟨k,rfl⟩:=bZ h0;have hk:k<ds.length:=by omega
 exact⟨ds[k],L2.bT (by simp[hk]),qck hk⟩
theorem mJ{ns:List Int}{k:Int}(h0:0<=k):cj (ns.map D.int) none (some k)=(ns.take k.toNat).map .int:=by
 obtain⟨j,rfl⟩:=bZ h0;unfold cj;rw[HT.i8,qaC,HT.kM,qaT,qbP,qcw,List.map_take];by_cases z:j<=ns.length
 ·rw[qcb z]
 ·rw[Nat.min_eq_right (by omega),qaW (by simp),qaW (by simp;omega)]
theorem cM{ds:List D}(hl:ds.length<=60)(hk:∀x∈ds,Kd x):Th (.lst ds):=⟨⟨_,rfl⟩,fun _ e=>by cases e;exact⟨hl,hk⟩⟩
theorem iY{d:D}(h:Kd d)(hl:∀ds,d≠.lst ds):Th d:=⟨h,fun ds e=>absurd e (hl ds)⟩
theorem cq{ns:List Int}:∀x∈ns.map D.int,Kd x:=fun x hx=>by
 obtain⟨i,_,rfl⟩:=qbb.mp hx;exact gH
theorem dZ{a b:List D}(ha:∀x∈a,Kd x)(hb:∀x∈b,Kd x):∀x∈a++b,Kd x:=fun x hx=>(qav.mp hx).elim (ha x) (hb x)
theorem cE{d:D}(h:Kd d):∀x∈[d],Kd x:=fun x hx=>by
 have:x=d:=by simpa using hx
 subst this;exact h
theorem fK{n:Nat}{ds:List D}(h:ds.length≠n):bX n (.lst ds)=false:=by
 unfold bX;refine @decide_eq_false _ (_) fun ⟨qs,e,pm⟩=>h ?_
 have:=pm.length_eq
 rw[e,qaC,this];simp[upto]
theorem cU{n:Nat}{ds:List D}{x:D}(hx:x∈ds)(h:∀i:Int,0<=i->i<n->x≠.int i):bX n (.lst ds)=false:=by
 unfold bX;refine @decide_eq_false _ (_) fun ⟨qs,e,pm⟩=>?_;rw[e] at hx;obtain⟨i,hi,rfl⟩:=qbb.mp hx
 have:=cO.mp (pm.mem_iff.mp hi)
 exact h i this.1 this.2 rfl
theorem bad_p{n:Nat}{qs:List Int}{s:Pen}(o:Ord n qs):∃d s',cG.p [.pen,.lst (qs.map .int)] s=.ok d s'/\Th d/\bX n d=false:=by
 have ql:=o.len;have n12:=o.n12;have el1:((qs.map D.int).length:Int)=n:=by rw[qaC,ql]
 have en:oNeg.p (.int 1)=some (.int (-1)):=rfl;have u1:∀{a:D} {s:Pen},(if [a].length<=100000 then PR.ok (D.lst [a]) s else .bad)=.ok (.lst [a]) s:=fun {a s}=>qaf (by simp);have u0:∀{s:Pen},(if ([]:List D).length<=100000 then PR.ok (D.lst []) s else .bad)=.ok (.lst []) s:=fun {s}=>qaf (by simp);have v0:∀{s:Pen},(if ([]:List D).length<=100000 then PR.ok (D.tup []) s else .bad)=.ok (.tup []) s:=fun {s}=>qaf (by simp);have a1:∀x:D,aW.p (.lst (qs.map D.int)) (.lst [x])=some (.lst (qs.map D.int++[x])):=fun x=>cS (by simp;omega);generalize hL1:([.tup (qs.map .int),.lst (qs.map .int++[.int n]),.lst (qs.map .int++[.non]),.non,.str "",.dic,.int n,.lst [.lst (qs.map .int)],.lst (qs.map .int++[.int (-1)]),.lst [.lst []],.lst [.str "0"],.lst [.bl true],.int 0]:List D)=L1;have l1:L1.length=13:=by rw[<-hL1];rfl
 have z1:(if L1.length<=100000 then PR.ok (D.lst L1) s else .bad)=.ok (.lst L1) s:=qaf (by omega);have g1:∀d∈L1,Th d/\bX n d=false:=fun d md=>by
  rw[<-hL1] at md;simp only[qan,qbi,or_false] at md;rcases md with rfl|rfl|rfl|rfl|rfl|rfl|rfl|rfl|rfl|rfl|rfl|rfl|rfl
  ·exact⟨iY ⟨_,rfl⟩ (fun _ e=>by cases e),rfl⟩
  ·exact⟨cM (by simp;omega) (dZ cq (cE gH)),fK (by simp;omega)⟩
  ·exact⟨cM (by simp;omega) (dZ cq (cE ⟨_,rfl⟩)),fK (by simp;omega)⟩
  ·exact⟨iY ⟨_,rfl⟩ (fun _ e=>by cases e),rfl⟩
  ·exact⟨iY ⟨_,rfl⟩ (fun _ e=>by cases e),rfl⟩
  ·exact⟨iY ⟨_,rfl⟩ (fun _ e=>by cases e),rfl⟩
  ·exact⟨iY ⟨_,rfl⟩ (fun _ e=>by cases e),rfl⟩
  ·exact⟨cM (by simp) (cE ⟨_,rfl⟩),cU (qbv.mpr rfl) fun _ _ _ e=>by cases e⟩
  ·exact⟨cM (by simp;omega) (dZ cq (cE gH)),fK (by simp;omega)⟩
  ·exact⟨cM (by simp) (cE ⟨_,rfl⟩),cU (qbv.mpr rfl) fun _ _ _ e=>by cases e⟩
  ·exact⟨cM (by simp) (cE ⟨_,rfl⟩),cU (qbv.mpr rfl) fun _ _ _ e=>by cases e⟩
  ·exact⟨cM (by simp) (cE ⟨_,rfl⟩),cU (qbv.mpr rfl) fun _ _ _ e=>by cases e⟩
  ·exact⟨iY ⟨_,rfl⟩ (fun _ e=>by cases e),rfl⟩
 rw[kw (by rfl)];unfold dz;rw[show dSt 4 [D.pen,.lst (qs.map .int)]=[some .pen,some (.lst (qs.map .int)),none,none] from rfl];simp only[aG,bo,cu,aC,az,aA,PR.bind_ok,aB,d3,el1,PR.of_some,PR.go_ok,qaq,qar,PU.av,cC,aS,tV,u1,u0,a1,bF,eD,my,cn_bl,bA,xDic_p,lV,en,hL1,z1];by_cases zn:(n:Int)>0
 ·have c2:cj (qs.map D.int) (some 1) none=(qs.drop 1).map .int:=iZ (j:=1) (by omega);have c3:cj (qs.map D.int) none (some ((n:Int) - 1))=(qs.take (n - 1)).map .int:=by
   rw[mJ (by omega)];congr 2;omega
  have c4:cj (qs.map D.int) none (some 1)=(qs.take 1).map .int:=mJ (by decide);have a2:∀x:D,aW.p (.lst ((qs.drop 1).map D.int)) (.lst [x])=some (.lst ((qs.drop 1).map D.int++[x])):=fun x=>cS (by simp;omega);have a3:∀x:D,aW.p (.lst ((qs.take (n - 1)).map D.int)) (.lst [x])=some (.lst ((qs.take (n - 1)).map D.int++[x])):=fun x=>cS (by simp;omega);have a4:=cS (x:=qs.map D.int) (y:=(qs.take 1).map .int) (by simp;omega);generalize hL2:([.lst ((qs.drop 1).map .int),.lst ((qs.drop 1).map .int++[.int n]),.lst ((qs.drop 1).map .int++[.int (-1)]),.lst ((qs.take (n - 1)).map .int++[.str "0"]),.lst (qs.map .int++(qs.take 1).map .int)]:List D)=L2;have l2:L2.length=5:=by rw[<-hL2];rfl
  have z2:(if L2.length<=100000 then PR.ok (D.lst L2) s else .bad)=.ok (.lst L2) s:=qaf (by omega);have tl:(qs.take (n - 1)).length<=12:=by rw[qbt];omega
  have ol:(qs.take 1).length=1:=by rw[qbt];omega
  have g2:∀d∈L2,Th d/\bX n d=false:=fun d md=>by
   rw[<-hL2] at md;simp only[qan,qbi,or_false] at md;rcases md with rfl|rfl|rfl|rfl|rfl
   ·exact⟨cM (by simp;omega) cq,fK (by simp;omega)⟩
   ·exact⟨cM (by simp;omega) (dZ cq (cE gH)),cU (x:=.int n) (by simp) fun i _ h e=>by injection e with e;omega⟩
   ·exact⟨cM (by simp;omega) (dZ cq (cE gH)),cU (x:=.int (-1)) (by simp) fun i h _ e=>by injection e with e;omega⟩
   ·exact⟨cM (by simp;omega) (dZ cq (cE ⟨_,rfl⟩)),cU (x:=.str "0") (by simp) fun i h _ e=>by cases e⟩
   ·exact⟨cM (by rw[qaN,qaC,qaC];omega) (dZ cq cq),fK (by rw[qaN,qaC,qaC];omega)⟩
  have cm:∀(f:Int->D) (e:Xe []) (hz:e.fz=true),(∀v∈qs,e.p [some (.int v)] s=.ok (f v) s)->∀(env:aq),env[1]?=some (some (.lst (qs.map .int)))->(bN 1 [] (bW (ac 1)) (ws':=[]) (xNm 0) xTrue e (hz:=hz):Xe []).p env s=.ok (.lst (qs.map f)) s:=fun f e hz he env e1=>by
   have q:=jN (ws:=[]) (ws':=[]) (env:=env) (s:=s) (fm:=[]) (i:=bW (ac 1)) (t:=xTrue) (e:=e) (ds:=qs.map .int) (fun _=>true) (fun y=>match y with | .int v=>f v | _=>.non) (by rw[ng,kI e1];rfl) (by simp;omega) (fun y hy=>by
    obtain⟨v,hv,rfl⟩:=qbb.mp hy
    exact⟨rfl,fun _=>he v hv⟩) (hz:=hz)
   rw[eV,qbl] at q;exact q
  have c5:=cm (fun v=>if v<2 then .bl (decide (0<v)) else .int v) (ak oIx (bg (ag (ac 0) (ag (ak oGt (ac 0) (xC (.int 0))) xNil))) (xCb cInt (ag (ak oLt (ac 0) (xC (.int 2))) xNil))) rfl fun v _=>by
   by_cases z:v<2
   ·simp[z]
   ·simp[z]
  have c6:=cm (fun v=>.int (v+1)) (ak aW (ac 0) (xC (.int 1))) rfl fun v _=>by simp
  generalize hL3:([.lst (qs.map fun v=>if v<2 then .bl (decide (0<v)) else .int v),.lst (qs.map fun v=>.int (v+1)),.lst [],.tup []]:List D)=L3;have l3:L3.length=4:=by rw[<-hL3];rfl
  have z3:(if L3.length<=100000 then PR.ok (D.lst L3) s else .bad)=.ok (.lst L3) s:=qaf (by omega);have g3:∀d∈L3,Th d/\bX n d=false:=fun d md=>by
   have m0:(0:Int)∈qs:=o.pm.mem_iff.mpr (cO.mpr ⟨by omega,by omega⟩);have mn:(n:Int) - 1∈qs:=o.pm.mem_iff.mpr (cO.mpr ⟨by omega,by omega⟩);rw[<-hL3] at md;simp only[qan,qbi,or_false] at md;rcases md with rfl|rfl|rfl|rfl
   ·exact⟨cM (by simp;omega) fun x hx=>by
     obtain⟨v,_,rfl⟩:=qbb.mp hx;split
     ·exact⟨_,rfl⟩
     ·exact⟨_,rfl⟩,cU (x:=.bl false) (qbb.mpr ⟨0,m0,rfl⟩) fun i _ _ e=>by cases e⟩
   ·exact⟨cM (by simp;omega) fun x hx=>by
     obtain⟨v,_,rfl⟩:=qbb.mp hx
     exact⟨_,rfl⟩,cU (x:=.int n) (qbb.mpr ⟨_,mn,by congr 1;omega⟩) fun i _ h e=>by injection e with e;omega⟩
   ·exact⟨cM (by simp) (by simp),fK (by simp;omega)⟩
   ·exact⟨iY ⟨_,rfl⟩ (fun _ e=>by cases e),rfl⟩
  have b1:=cS (x:=L1) (y:=L2) (by omega);have b2:=cS (x:=L1++L2) (y:=L3) (by simp[l1,l2,l3]);have e5:=c5 [some .pen,some (.lst (qs.map .int)),some (.int n),some (.lst (L1++L2))] rfl;have e6:=c6 [some .pen,some (.lst (qs.map .int)),some (.int n),some (.lst (L1++L2))] rfl;have lt:(L1++L2++L3).length=22:=by simp[l1,l2,l3]
  obtain⟨c,s3,c0,c1',qc⟩:=cY (s:=s) (size:=22) (by decide) (by decide);obtain⟨d,ed,md⟩:=rl (ds:=L1++L2++L3) c0 (by rw[lt];exact c1');refine⟨d,s3,?_,?_⟩
  ·simp only[cw,ce,aS,az,aA,PR.bind_ok,bF,bA,fC,zn,decide_true,PR.of_some,PR.bl_ok,PR.go_ok,if_true];simp only[aG,bo,aS,az,aA,PR.bind_ok,cC,aC,lO,lN,lS,bF,bA,my,lM,c2,c4,PR.of_some,u1,a2,lV,en,kn,c3,a3,a4,aB,hL2,z2,b1,PR.go_ok,qaq,qar,PU.av];simp only[e5,e6,PR.bind_ok,mT,aB,u0,v0,hL3,z3,b2,PR.of_some,PR.go_ok,qaq,qar,PU.av];simp only[fw,aS,az,aA,PR.bind_ok,aU,aC,cu,aB,d3,PR.of_some,lt,show ((22:Nat):Int)=22 from rfl,qc,dJ,ed,PR.go_ok,PU.dy]
  ·rcases qav.mp md with md|md
   ·rcases qav.mp md with md|md
    ·exact g1 d md
    ·exact g2 d md
   ·exact g3 d md
 ·obtain⟨c,s3,c0,c1',qc⟩:=cY (s:=s) (size:=13) (by decide) (by decide);obtain⟨d,ed,md⟩:=rl (ds:=L1) c0 (by rw[l1];exact c1');refine⟨d,s3,?_,g1 d md⟩;simp only[cw,ce,aS,az,aA,PR.bind_ok,bF,bA,fC,zn,decide_false,PR.of_some,PR.bl_ok,PR.go_ok,qam,if_false,cr,PU.av];simp only[fw,aS,az,aA,PR.bind_ok,aU,aC,cu,aB,d3,PR.of_some,l1,show ((13:Nat):Int)=13 from rfl,qc,dJ,ed,PR.go_ok,PU.dy]
def gi:Option Int->PyData
 | none=>.none
 | some i=>.int i
theorem nq:∀(k:List (Option Int)),(pys (k.map optD)=some (k.map gi)/\deps (k.map optD)=0)/\(PyData.canLayAll0 (k.map gi)=true/\PyData.depthAll (k.map gi)<=1)/\PyData.eqvAll (k.map gi) (k.map gi)=true
 | []=>⟨⟨rfl,rfl⟩,⟨rfl,by simp[PyData.depthAll]⟩,by simp[PyData.eqvAll]⟩
 | i::k=>by
  obtain⟨⟨a,b⟩,⟨c,d⟩,e⟩:=nq k;refine⟨?_,⟨?_,?_⟩,?_⟩
  ·cases i <;> simp[pys,py,optD,gi,a,deps,dep,b]
  ·cases i <;> simp[PyData.canLayAll0,PyData.canLay0,gi,c]
  ·cases i <;> (simp only[qaL,PyData.depthAll,PyData.depth,gi];omega)
  ·cases i <;> simp[PyData.eqvAll,PyData.eqv,gi,e]
theorem eqD_up{neg:Bool}{n:Nat}{u:Int->Option Int}:eqD neg (.lst (upL n u)) (.lst (upL n u))=some (.bl (!neg)):=by
 have e:upL n u=((upto n).map u).map optD:=by unfold upL;rw[qbl];rfl
 rw[e];generalize (upto n).map u=k;obtain⟨⟨a,b⟩,⟨l1,l2⟩,ev⟩:=nq k;simp only[eqD,py,a,qbK];rw[qaf ⟨⟨by simp[dep,b],by simp[dep,b]⟩,eQ (by simpa [PyData.canLay0] using l1) (by simp only[PyData.depth];omega),eQ (by simpa [PyData.canLay0] using l1) (by simp only[PyData.depth];omega)⟩];simp only[PyData.eqv,ev];cases neg <;> rfl
theorem eq_str{neg:Bool}{x:Str}(hs:PyData.strOk x=true):eqD neg (.str x) (.str x)=some (.bl (!neg)):=by
 cases neg <;> simp[eqD,py,dep,SeqAt.shaped,PyData.canLay0,PyData.depth,PyData.eqv,hs]
noncomputable abbrev rtB:Xd []:=(aI (br 8 (xCb eZ (ag (ac 6) xNil)))
 (aI (br 9 (aP cf (ag (ac 5) (ag (ac 8) xNil))))
 (aI (xIf (xOr (jb (xB (xUn (gK ["bool"]) (ac 9)))) (xOr (xB (ak oNe (ac 9) (aP eU (ag (ac 2) (ag (ac 6) xNil))))) (xOr (xB (ak oNe (ac 8) (ac 6))) (xB (ak oNe (ac 5) (ac 2)))))) (bR (xC (.bl false))) xSkip)
 (xIf (xB (ak oNe (aP cf (ag (ac 5) (ag (aP cG (ag (ac 0) (ag (ac 6) xNil))) xNil))) (xC (.str "order")))) (bR (xC (.bl false))) xSkip))))
theorem rt_turn{n:Nat}{u:Int->Option Int}{qs:List Int}{z3 z4 z7 z8 z9:Option D}{s:Pen}(t:Tr n u)(o:Ord n qs):∃y8 y9 s',rtB.p [some .pen,some (.int (n:Int)),some (.lst (upL n u)),z3,z4,some (.lst (upL n u)),some (.lst (qs.map .int)),z7,z8,z9] s=.nx [some .pen,some (.int (n:Int)),some (.lst (upL n u)),z3,z4,some (.lst (upL n u)),some (.lst (qs.map .int)),z7,y8,y9] s':=by
 have ql:=o.len;have hn:=o.n12;have cl:eZ.p [.lst (qs.map .int)]=some (.lst (qs.map .int)):=kv (by simp;omega);obtain⟨d,s1,q1,th,ob⟩:=bad_p (s:=s) o;have eb:∀b:Bool,(gK ["bool"]).p (.bl b)=some (.bl true):=fun b=>by simp[cz]
 have eq1:eqD true (.bl (keB u qs)) (.bl (keB u qs))=some (.bl false):=by rw[eqD_bb];simp
 have eq3:eqD true (.str "order") (.str "order")=some (.bl false):=eq_str (by decide +kernel);refine⟨some (.lst (qs.map .int)),some (.bl (keB u qs)),s1,?_⟩;rw[aG,bo];simp only[cu,aC,az,aA,PR.bind_ok,aB,cl,PR.of_some,PR.go_ok,qaq,qar,PU.av];rw[aG,bo];simp only[aU,aC,az,aA,PR.bind_ok,aB,rM o,PR.go_ok,qaq,qar,PU.av];rw[aG,cw];simp only[xOr_p,nc,ce,lV,az,aA,PR.bind_ok,eb,PR.of_some,PR.bl_ok,qbr,qam,if_false,aS,aU,aC,aB,holds_p t o,lU,eq1,d7,eqD_up,if_true,decide_true,PR.go_ok,cr,PU.av];rw[cw];simp only[ce,aS,aU,aC,az,aA,PR.bind_ok,aB,q1,t6 hn th ob,bF,my,lU,eq3,PR.of_some,PR.bl_ok,PR.go_ok,qam,if_false,cr]
theorem rc{gs:List Int}{j:Nat}(h:j+1<gs.length):(gs.take j++[gs[j+1],gs[j]]++gs.drop (j+2)).Perm gs:=by
 have e:gs=gs.take j++([gs[j],gs[j+1]]++gs.drop (j+2)):=by
  have h1:gs.drop j=gs[j]::gs[j+1]::gs.drop (j+2):=by
   rw[qaQ (by omega),qaQ (i:=j+1) h]
  have h2:=qba j gs;rw[h1] at h2;exact h2.symm
 have p:(gs.take j++([gs[j+1],gs[j]]++gs.drop (j+2))).Perm (gs.take j++([gs[j],gs[j+1]]++gs.drop (j+2))):=List.Perm.append_left _ (List.Perm.append_right _ (List.Perm.swap _ _ _));rw[qaX];exact p.trans (by rw[<-e])
theorem right_p{s:Pen}:∃s',eY.p [.pen] s=.ok (.bl true) s':=by
 obtain⟨a,s1,a0,a1,qa⟩:=cY (s:=s) (size:=13) (by decide) (by decide);obtain⟨n,rfl⟩:=bZ a0;have n12:n<=12:=by omega
 obtain⟨u,s2,q2,t⟩:=above_p (n:=n) (s:=s1) n12;obtain⟨gs,s3,q3,og,kg⟩:=kept_p (s:=s2) t n12;obtain⟨ps,s4,q4,op⟩:=pE (n:=n) (s:=s3) n12;have gl:=og.len;have cl:eZ.p [.lst (gs.map .int)]=some (.lst (gs.map .int)):=kv (by simp;omega);have clu:eZ.p [.lst (upL n u)]=some (.lst (upL n u)):=kv (by rw[cT];omega)
 obtain⟨hs,s5,y7,oh,qh⟩:∃hs s5 y7,Ord n hs/\(xIf (xB (ak oGt (ac 1) (xC (.int 1)))) (aI (br 7 (aP bn (ag (ac 0) (ag (ak g0 (ac 1) (xC (.int 1))) xNil))))
 (nt 4 (ak aW (ak aW (xSl (ac 3) xNo (xPt (ac 7))) (bg (ag (ak oIx (ac 3) (ak aW (ac 7) (xC (.int 1)))) (ag (ak oIx (ac 3) (ac 7)) xNil)))) (xSl (ac 3) (xPt (ak aW (ac 7) (xC (.int 2)))) xNo)) (xC (.int 2)))) xSkip:Xd [4]).p [some .pen,some (.int (n:Int)),some (.lst (upL n u)),some (.lst (gs.map .int)),some (.lst [.lst (gs.map .int),.lst (ps.map .int),.lst (gs.map .int)]),none,none,none,none,none] s4=.nx [some .pen,some (.int (n:Int)),some (.lst (upL n u)),some (.lst (gs.map .int)),some (.lst [.lst (gs.map .int),.lst (ps.map .int),.lst ((hs:List Int).map .int)]),none,none,y7,none,none] s5:=by
  by_cases z:(n:Int)>1
  ·obtain⟨j,s5,j0,j1,qj⟩:=cY (s:=s4) (size:=(n:Int) - 1) (by omega) (by omega);obtain⟨j,rfl⟩:=bZ j0;have hj:j+1<gs.length:=by omega
   have c1:cj (gs.map D.int) none (some (j:Int))=(gs.take j).map .int:=mJ (by omega);have c2:cj (gs.map D.int) (some ((j:Int)+2)) none=(gs.drop (j+2)).map .int:=by
    have:=iZ (ns:=gs) (j:=j+2) (by omega)
    push_cast at this;exact this
   have i1:atI (gs.map D.int) ((j:Int)+1)=some (.int gs[j+1]):=by
    have:(j:Int)+1=((j+1:Nat):Int):=by omega
    rw[this];exact L2.bT (by simp[hj])
   have i2:atI (gs.map D.int) (j:Int)=some (.int gs[j]):=L2.bT (by simp[show j<gs.length by omega]);have ad1:=cS (x:=(gs.take j).map D.int) (y:=[.int gs[j+1],.int gs[j]]) (by simp;omega);have ad2:=cS (x:=(gs.take j).map D.int++[.int gs[j+1],.int gs[j]]) (y:=(gs.drop (j+2)).map .int) (by simp;omega);refine⟨gs.take j++[gs[j+1],gs[j]]++gs.drop (j+2),s5,some (.int (j:Int)),⟨n12,(rc hj).trans og.pm⟩,?_⟩;rw[cw];simp only[ce,aS,az,aA,PR.bind_ok,bF,bA,fC,z,decide_true,PR.of_some,PR.bl_ok,PR.go_ok,if_true];rw[aG,bo];simp only[aU,aC,aS,az,aA,PR.bind_ok,bF,bA,kn,PR.of_some,aB,qj,PR.go_ok,qaq,qar,PU.av]
   rw[rL,kQ (v:=.lst ((gs.take j).map D.int++[.int gs[j+1],.int gs[j]]++(gs.drop (j+2)).map .int)) (s1:=s5) (j:=2) (s2:=s5) (ds:=[.lst (gs.map .int),.lst (ps.map .int),.lst (gs.map .int)]) (n:=2) (by
    simp only[aS,lO,az,aA,PR.bind_ok,lS,lN,lM,c1,PR.of_some,cC,aC,bF,bA,dU,dJ,i1,i2,aB,qaM,qbh,show (0+1+1:Nat)<=100000 by decide,if_true,ad1,c2,ad2]) (by simp) rfl (by rfl)]
   simp
  ·refine⟨gs,s4,none,og,?_⟩;rw[cw];simp only[ce,aS,az,aA,PR.bind_ok,bF,bA,fC,z,decide_false,PR.of_some,PR.bl_ok,PR.go_ok,qam,if_false,cr]
 obtain⟨env',s6,e,z6,z8,z9,rfl⟩:=ik (g:=(xNm 6:Xg []).p) (b:=rtB.p)
  (fun _ env _=>∃z6 z8 z9,env=[some .pen,some (.int (n:Int)),some (.lst (upL n u)),some (.lst (gs.map .int)),some (.lst [.lst (gs.map .int),.lst (ps.map .int),.lst (hs.map .int)]),some (.lst (upL n u)),z6,y7,z8,z9]) [.lst (gs.map .int),.lst (ps.map .int),.lst (hs.map .int)] 0 _ s5 ⟨none,none,none,rfl⟩ (fun k env s' x ⟨z6,z8,z9,hE⟩ hx=>by
   subst hE;obtain⟨qs,rfl,o⟩:∃qs:List Int,x=.lst (qs.map .int)/\Ord n qs:=by
    have hx:=qaV hx;simp only[qan,qbi,or_false] at hx;rcases hx with rfl|rfl|rfl
    ·exact⟨gs,rfl,og⟩
    ·exact⟨ps,rfl,op⟩
    ·exact⟨hs,rfl,oh⟩
   obtain⟨y8,y9,s'',q⟩:=rt_turn (z3:=some (.lst (gs.map .int))) (z4:=some (.lst [.lst (gs.map .int),.lst (ps.map .int),.lst (hs.map .int)])) (z7:=y7) (z8:=z8) (z9:=z9) (s:=s') t o
   exact⟨_,_,s'',rfl,q,_,_,_,rfl⟩)
 refine⟨s6,?_⟩;have l3:(if [D.lst (gs.map .int),.lst (ps.map .int),.lst (gs.map .int)].length<=100000 then PR.ok (D.lst [D.lst (gs.map .int),.lst (ps.map .int),.lst (gs.map .int)]) s4 else .bad)=.ok (.lst [.lst (gs.map .int),.lst (ps.map .int),.lst (gs.map .int)]) s4:=qaf (by simp);rw[qo (by rfl)];unfold hW;rw[show dSt 10 [D.pen]=[some .pen,none,none,none,none,none,none,none,none,none] from rfl];rw[aG,bo];simp only[aU,aC,az,aA,PR.bind_ok,bF,bA,aB,qa,PR.go_ok,qaq,qar,PU.av];rw[aG,bo];simp only[aU,aC,az,aA,PR.bind_ok,aB,q2,PR.go_ok,qaq,qar,PU.av];rw[aG,bo];simp only[aU,aC,az,aA,PR.bind_ok,aB,q3,PR.go_ok,qaq,qar,PU.av];rw[aG,fF];simp only[cC,aU,aC,cu,az,aA,PR.bind_ok,aB,q4,cl,PR.of_some,l3,PR.go_ok,qaq,qar,PU.av];rw[aG,qh,PU.av,aG,bo];simp only[cu,aC,az,aA,PR.bind_ok,aB,clu,PR.of_some,PR.go_ok,qaq,qar,PU.av];rw[xFz_p (x:=.lst [.lst (gs.map .int),.lst (ps.map .int),.lst (hs.map .int)]) (d:=.bl true) (s':=s6) rfl]
 ·rfl
 rw[aG,jU,ng];simp only[az,aA,PR.bind_ok];refine (congrArg (fun z:PS=>z.then _) e).trans ?_;have kt:=kp_ke kg;rw[PU.av];simp only[fw,aS,aU,aC,az,aA,PR.bind_ok,aB,rM og,kt,bF,cn_bl,show (oIs false).p (.bl true) (.bl true)=some (.bl true) from rfl,PR.of_some,PR.go_ok]
theorem pz{ns:List Int}{k:Nat}(hk:k<ns.length):atI (ns.map PV.int) (k:Int)=some (.int ns[k]):=L2.bT (by simp[hk])
theorem nO{h:MH}:opPow (.int 10) (.int 18) h=.ok (.int (10 ^ 18)) h:=mU (by decide)
theorem uD{h:MH}:opPow (.int 10) (.int 15) h=.ok (.int (10 ^ 15)) h:=mU (by decide)
theorem ua{h:MH}{ns:List Int}{k:Nat}(hk:k<64):∃m c:Int,fu [.frl (ns.map .int),.int k] h=.ok (.loc h.length) (h++[.lst [.int m,.int c,.int 0]]):=by
 unfold fu;have k1:∀{i:Int} {h:MH},opMul (.int 7919) (.int i) h=.ok (.int (7919 * i)) h:=dW (by decide);have k2:∀{i:Int} {h:MH},opMul (.int 48271) (.int i) h=.ok (.int (48271 * i)) h:=dW (by decide);have k3:∀{i:Int} {h:MH},opMul (.int 40009) (.int i) h=.ok (.int (40009 * i)) h:=dW (by decide);have n3:∀{a b c:PV} {h:MH},newL [a,b,c] h=.ok (.loc h.length) (h++[.lst [a,b,c]]):=qv (by simp)
 have fin:∀cell:Int,∃m c:Int,(aF (mIf (mB (ai opGe (mCB fAbs (ae (af 2) mNil)) (ai opPow (mC (.int 10)) (mC (.int 18))))) (aV (aZ (ae (mC (.int 1)) (ae (mCB fAbs (ae (af 2) mNil)) (ae (mC (.int 0)) mNil))))) mSkip)
   (aV (aZ (ae (mC (.int 0)) (ae (ai opAdd (ai opMod (af 2) (mC (.int 2147483587))) (ai opMul (mC (.int 40009)) (af 1))) (ae (mC (.int 0)) mNil)))))) [some (.frl (ns.map .int)),some (.int k),some (.int cell)] h=.rt (.loc h.length) (h++[.lst [.int m,.int c,.int 0]]):=fun cell=>by
  by_cases z:(10:Int) ^ 18<=(if cell<0 then -cell else cell)
  ·exact⟨1,(if cell<0 then -cell else cell),by simp[nO,n3,z,-Int.reducePow]⟩
  ·exact⟨0,cell.fmod 2147483587+40009 * k,by simp[nO,n3,z,k3,da,-Int.reducePow]⟩
 have fin':∀cell:Int,∃m c:Int,((aF (mIf (mB (ai opGe (mCB fAbs (ae (af 2) mNil)) (ai opPow (mC (.int 10)) (mC (.int 18))))) (aV (aZ (ae (mC (.int 1)) (ae (mCB fAbs (ae (af 2) mNil)) (ae (mC (.int 0)) mNil))))) mSkip)
   (aV (aZ (ae (mC (.int 0)) (ae (ai opAdd (ai opMod (af 2) (mC (.int 2147483587))) (ai opMul (mC (.int 40009)) (af 1))) (ae (mC (.int 0)) mNil)))))) [some (.frl (ns.map .int)),some (.int k),some (.int cell)] h).fin=.ok (.loc h.length) (h++[.lst [.int m,.int c,.int 0]]):=fun cell=>by
  obtain⟨m,c,q⟩:=fin cell;exact⟨m,c,by rw[q];rfl⟩
 have lift:∀cell:Int,(aF (aO 2 (ai opAdd (ai opMul (mC (.int 7919)) (af 1)) (mC (.int 11))))
 (mIf (mB (ai opLt (af 1) (mCB fMin (ae (mCB fLen (ae (af 0) mNil)) (ae (mC (.int 63)) mNil))))) (aO 2 (ai aY (af 0) (af 1))) (mIf (mB (ai opGt (mCB fLen (ae (af 0) mNil)) (mC (.int 0)))) (aO 2 (ai opAdd (ai opMod (ai aY (af 0) (ai opMod (af 1) (mCB fMin (ae (mCB fLen (ae (af 0) mNil)) (ae (mC (.int 63)) mNil))))) (ai opPow (mC (.int 10)) (mC (.int 15)))) (ai opMul (mC (.int 48271)) (af 1)))) mSkip))) [some (.frl (ns.map .int)),some (.int k),none] h=.nx [some (.frl (ns.map .int)),some (.int k),some (.int cell)] h ->
   ∃m c:Int,bp 3 2 m_l_pen [.frl (ns.map .int),.int k] h=.ok (.loc h.length) (h++[.lst [.int m,.int c,.int 0]]):=fun cell q=>by
  obtain⟨m,c,q2⟩:=fin' cell;refine⟨m,c,(fH (by rfl)).trans ?_⟩;rw[<-q2];unfold m_l_pen;simp only[kq] at q ⊢;have e0:bv 3 [PV.frl (ns.map .int),PV.int k]=[some (.frl (ns.map .int)),some (.int k),none]:=rfl;rw[e0];generalize (aO 2 (ai opAdd (ai opMul (mC (.int 7919)) (af 1)) (mC (.int 11)))) [some (.frl (ns.map .int)),some (.int k),none] h=o1 at q ⊢
  cases o1 with
  | nx σ1 h1 =>
   simp only[MM.av,kq] at q ⊢;rw[q];rfl
  | _=>cases q
 have hlim:∃lim:Nat,(if (63:Int)<(ns.length:Int) then (63:Int) else (ns.length:Int))=(lim:Int)/\lim<=ns.length/\(0<ns.length->0<lim):=by
  by_cases z:(63:Int)<(ns.length:Int)
  ·exact⟨63,by rw[qaf z];rfl,by omega,by omega⟩
  ·exact⟨ns.length,by rw[qai z],by omega,by omega⟩
 obtain⟨lim,el,hl1,hl2⟩:=hlim;by_cases h1:k<lim
 ·refine lift (ns[k]'(by omega)) ?_;simp[k1,el,h1,pz (show k<ns.length by omega)]
 ·by_cases h0:0<ns.length
  ·have hm0:(lim:Int)≠0:=by have:=hl2 h0;omega
   have hj:k % lim<ns.length:=qat (Nat.mod_lt _ (hl2 h0)) hl1;have ej:(k:Int).fmod (lim:Int)=((k % lim:Nat):Int):=by rw[qby _ (by omega)];rfl
   refine lift ((ns[k % lim]'hj).fmod (10 ^ 15)+48271 * k) ?_;have p0:((10:Int) ^ 15)≠0:=by decide
   have a1:=pz hj;rw[Int.natCast_emod] at a1;simp[k1,el,h1,h0,da hm0,ej,a1,uD,da p0,k2,-Int.reducePow]
  ·have h0':ns=[]:=qbL.mp (by omega);refine lift (7919 * k+11) ?_;have z:¬((k:Int)<(lim:Int)):=by omega
   simp[k1,el,z,h0]
theorem qE{lo:Int}{c i:Nat}{x:PV}(h:(bq lo c)[i]?=some x):x=.int (lo+i)/\i<c:=by
 unfold bq at h;rw[qax,qap] at h;obtain⟨k,hk,rfl⟩:=h
 have:=qab.mp hk
 obtain⟨a,b⟩:=this;simp at a b;subst b;exact⟨rfl,a⟩
theorem qL{c i:Nat}{x:PV}(h:(bq 0 c)[i]?=some x):x=.int (i:Int)/\i<c:=by
 have:=qE h;simpa using this
theorem qN{h:MH}{p:Nat}{s:Pen}(pn:bG h p s):∃h',du [.loc p] h=.ok (.bl true) h':=by
 obtain⟨s',q⟩:=right_p (s:=s)
 have k:=eY.ok (q:=p) (h:=h) (O:=[p]) (vs:=[.loc p]) (ds:=[.pen]) (s:=s) (fun o ho=>by
  have:o=p:=by simpa using ho
  subst this;exact aX pn) (by simp) pn ⟨_,_,rfl,rfl,rfl⟩
 rw[q,oE] at k;obtain⟨v,h',e,_,_,r,_⟩:=k;exact⟨h',by rw[e];rw[show v=PV.bl true from r]⟩
theorem law_true(ns:List Int)(hn:ns.length<=63):∃h',f_law [.frl (ns.map .int)] []=.ok (.bl true) h':=by
 unfold f_law;rw[fH (by rfl)];unfold m_law;obtain⟨c,hc,ec⟩:∃c:Nat,c<=30/\(ae (aR cX (ae (af 0) (ae (mC (.int 30)) mNil))) mNil) [some (.frl (ns.map .int)),none] []=.ok [.int (c:Int)] []:=by
  have er:cX [.frl (ns.map .int),.int 30] []=.ok (.int (if (if (30:Int)<(ns.length:Int) then 30 else (ns.length:Int))>4 then (if (30:Int)<(ns.length:Int) then 30 else (ns.length:Int)) else 4)) []:=by
   unfold cX;rw[fH (by rfl)];unfold m_l_rounds;simp[bv,List.replicate]
  obtain⟨c,e⟩:=bZ (i:=(if (if (30:Int)<(ns.length:Int) then 30 else (ns.length:Int))>4 then (if (30:Int)<(ns.length:Int) then 30 else (ns.length:Int)) else 4)) (by (repeat' split) <;> omega);refine⟨c,?_,?_⟩
  ·have:(c:Int)<=30:=by rw[<-e];(repeat' split) <;> omega
   omega
  ·rw[e] at er;simp -implicitDefEqProofs [er]
 have er:=itR1 ec (by omega);obtain⟨σ',h',e,z,hσ⟩:=pq (it:=⟨bq 0 c,[]⟩) (g:=gNm 1) (b:=mIf (fh (mB (aR du (ae (aR fu (ae (af 0) (ae (af 1) mNil))) mNil)))) (aV (mC (.bl false))) mSkip)
  (fun _ σ _=>∃z,σ=[some (.frl (ns.map .int)),z]) (bq 0 c) 0 [some (.frl (ns.map .int)),none] [] ⟨none,rfl⟩ (fun _ _ _ _=>ok_none.mpr trivial) (fun m σ h x ⟨z,eσ⟩ hx=>by
   subst eσ;obtain⟨rfl,hm⟩:=qL hx;obtain⟨a,b,qp⟩:=ua (h:=h) (ns:=ns) (k:=m) (by omega);obtain⟨h2,qr⟩:=qN (h:=h++[.lst [.int a,.int b,.int 0]]) (p:=h.length) (s:=(a,b,0)) (by show (h++[MO.lst [.int a,.int b,.int 0]])[h.length]?=some (.lst [.int a,.int b,.int 0]);exact app_0);refine⟨_,_,[some (.frl (ns.map .int)),some (.int (m:Int))],h2,rfl,?_,_,rfl⟩
   simp -implicitDefEqProofs [qp,qr])
 subst hσ;refine⟨h',?_⟩;have e0:bv 2 [PV.frl (ns.map .int)]=[some (.frl (ns.map .int)),none]:=rfl;rw[e0,kq,mFor_ap,er,aE,e,MM.av];simp
end Law
namespace Law
open PySem PySem.Spec PyProof.Rows L2 MM
set_option maxHeartbeats 4000000
def top(i:Nat):Stmt:=PySem.Challenge.pw_fewfills_k11_orders_that_keep.main.body.getD i (.Pass ⟨0,0,0,0⟩)
structure Cl (K:qaa) (mg:MGl):Prop where
 r_NoOrder:∃C,ExcK K mg "NoOrder" C
 t_FillError:∃D,ExcK K mg "FillError" D/\∀x∈(["NoOrder"]:List Str),∃C,ExcK K mg x C/\PySem.W.mroIn K C (.ref D)=some true
 i_NoNumber:∃D,mg "NoNumber"=some (.ref D)/\IsiC K mg (.ref D) ["NoOrder"] []
 i_NoOrder:∃D,mg "NoOrder"=some (.ref D)/\IsiC K mg (.ref D) ["NoOrder"] ["NoOrder"]
 i_NoParting:∃D,mg "NoParting"=some (.ref D)/\IsiC K mg (.ref D) ["NoOrder"] []
 i_NoPivot:∃D,mg "NoPivot"=some (.ref D)/\IsiC K mg (.ref D) ["NoOrder"] []
 i_NoPlace:∃D,mg "NoPlace"=some (.ref D)/\IsiC K mg (.ref D) ["NoOrder"] []
 i_NoRow:∃D,mg "NoRow"=some (.ref D)/\IsiC K mg (.ref D) ["NoOrder"] []
 i_NoSheet:∃D,mg "NoSheet"=some (.ref D)/\IsiC K mg (.ref D) ["NoOrder"] []
 i_NoText:∃D,mg "NoText"=some (.ref D)/\IsiC K mg (.ref D) ["NoOrder"] []
 i_NoWeb:∃D,mg "NoWeb"=some (.ref D)/\IsiC K mg (.ref D) ["NoOrder"] []
 i_NoWord:∃D,mg "NoWord"=some (.ref D)/\IsiC K mg (.ref D) ["NoOrder"] []
 i_TooMany:∃D,mg "TooMany"=some (.ref D)/\IsiC K mg (.ref D) ["NoOrder"] []
 i_ValueError:IsiC K mg (.type "ValueError") ["NoOrder"] ["NoOrder"]
def ClK(K:qaa):Prop:=∀(mg:MGl) (base:Heap),K.In base->base.Ns mainGlobals mg->Cl K mg
theorem clK_mk{K:qaa}{C_FillError:Addr}{C_NoNumber:Addr}{C_NoOrder:Addr}{C_NoParting:Addr}{C_NoPivot:Addr}{C_NoPlace:Addr}{C_NoRow:Addr}{C_NoSheet:Addr}{C_NoText:Addr}{C_NoWeb:Addr}{C_NoWord:Addr}{C_TooMany:Addr}
  (a_FillError:PySem.W.nsIn K mainGlobals "FillError"=some (some (.ref C_FillError)))
  (a_NoNumber:PySem.W.nsIn K mainGlobals "NoNumber"=some (some (.ref C_NoNumber)))
  (a_NoOrder:PySem.W.nsIn K mainGlobals "NoOrder"=some (some (.ref C_NoOrder)))
  (a_NoParting:PySem.W.nsIn K mainGlobals "NoParting"=some (some (.ref C_NoParting)))
  (a_NoPivot:PySem.W.nsIn K mainGlobals "NoPivot"=some (some (.ref C_NoPivot)))
  (a_NoPlace:PySem.W.nsIn K mainGlobals "NoPlace"=some (some (.ref C_NoPlace)))
  (a_NoRow:PySem.W.nsIn K mainGlobals "NoRow"=some (some (.ref C_NoRow)))
  (a_NoSheet:PySem.W.nsIn K mainGlobals "NoSheet"=some (some (.ref C_NoSheet)))
  (a_NoText:PySem.W.nsIn K mainGlobals "NoText"=some (some (.ref C_NoText)))
  (a_NoWeb:PySem.W.nsIn K mainGlobals "NoWeb"=some (some (.ref C_NoWeb)))
  (a_NoWord:PySem.W.nsIn K mainGlobals "NoWord"=some (some (.ref C_NoWord)))
  (a_TooMany:PySem.W.nsIn K mainGlobals "TooMany"=some (some (.ref C_TooMany)))
  (e_FillError:PySem.W.excIn K C_FillError bmVE "ValueError.__new__"=true)
  (e_NoOrder:PySem.W.excIn K C_NoOrder bmVE "ValueError.__new__"=true)
  (ga_NoOrder:PySem.W.findIn K (.ref C_NoOrder) "__getattribute__"=some (some (.builtin "BaseException.__getattribute__")))
  (cl_NoOrder:PySem.W.findIn K (.ref C_NoOrder) "__class__"=some (some (.builtin "object.__class__")))
  (gt_NoOrder:PySem.W.findIn K (.ref C_NoOrder) "__getattr__"=some none)
  (mo_NoOrder:PySem.W.mroIn K C_NoOrder (.type "object")=some true)
  (mb_NoOrder:PySem.W.mroIn K C_NoOrder (.type "BaseException")=some true)
  (m_FillError_NoOrder:PySem.W.mroIn K C_NoOrder (.ref C_FillError)=some true)
  (y_NoNumber:PySem.W.kitOne K (.type "NoneType") (.ref C_NoNumber)=some false)
  (k_NoNumber_NoOrder:PySem.W.kitOne K (.ref C_NoOrder) (.ref C_NoNumber)=some false)
  (y_NoOrder:PySem.W.kitOne K (.type "NoneType") (.ref C_NoOrder)=some false)
  (k_NoOrder_NoOrder:PySem.W.kitOne K (.ref C_NoOrder) (.ref C_NoOrder)=some true)
  (y_NoParting:PySem.W.kitOne K (.type "NoneType") (.ref C_NoParting)=some false)
  (k_NoParting_NoOrder:PySem.W.kitOne K (.ref C_NoOrder) (.ref C_NoParting)=some false)
  (y_NoPivot:PySem.W.kitOne K (.type "NoneType") (.ref C_NoPivot)=some false)
  (k_NoPivot_NoOrder:PySem.W.kitOne K (.ref C_NoOrder) (.ref C_NoPivot)=some false)
  (y_NoPlace:PySem.W.kitOne K (.type "NoneType") (.ref C_NoPlace)=some false)
  (k_NoPlace_NoOrder:PySem.W.kitOne K (.ref C_NoOrder) (.ref C_NoPlace)=some false)
  (y_NoRow:PySem.W.kitOne K (.type "NoneType") (.ref C_NoRow)=some false)
  (k_NoRow_NoOrder:PySem.W.kitOne K (.ref C_NoOrder) (.ref C_NoRow)=some false)
  (y_NoSheet:PySem.W.kitOne K (.type "NoneType") (.ref C_NoSheet)=some false)
  (k_NoSheet_NoOrder:PySem.W.kitOne K (.ref C_NoOrder) (.ref C_NoSheet)=some false)
  (y_NoText:PySem.W.kitOne K (.type "NoneType") (.ref C_NoText)=some false)
  (k_NoText_NoOrder:PySem.W.kitOne K (.ref C_NoOrder) (.ref C_NoText)=some false)
  (y_NoWeb:PySem.W.kitOne K (.type "NoneType") (.ref C_NoWeb)=some false)
  (k_NoWeb_NoOrder:PySem.W.kitOne K (.ref C_NoOrder) (.ref C_NoWeb)=some false)
  (y_NoWord:PySem.W.kitOne K (.type "NoneType") (.ref C_NoWord)=some false)
  (k_NoWord_NoOrder:PySem.W.kitOne K (.ref C_NoOrder) (.ref C_NoWord)=some false)
  (y_TooMany:PySem.W.kitOne K (.type "NoneType") (.ref C_TooMany)=some false)
  (k_TooMany_NoOrder:PySem.W.kitOne K (.ref C_NoOrder) (.ref C_TooMany)=some false)
  (k_ValueError_NoOrder:PySem.W.kitOne K (.ref C_NoOrder) (.type "ValueError")=some true)
   :ClK K:=fun mg base kin ns=>by
 have g_FillError:=PySem.W.mg_of kin ns a_FillError;have g_NoNumber:=PySem.W.mg_of kin ns a_NoNumber;have g_NoOrder:=PySem.W.mg_of kin ns a_NoOrder;have g_NoParting:=PySem.W.mg_of kin ns a_NoParting;have g_NoPivot:=PySem.W.mg_of kin ns a_NoPivot;have g_NoPlace:=PySem.W.mg_of kin ns a_NoPlace;have g_NoRow:=PySem.W.mg_of kin ns a_NoRow;have g_NoSheet:=PySem.W.mg_of kin ns a_NoSheet;have g_NoText:=PySem.W.mg_of kin ns a_NoText;have g_NoWeb:=PySem.W.mg_of kin ns a_NoWeb;have g_NoWord:=PySem.W.mg_of kin ns a_NoWord;have g_TooMany:=PySem.W.mg_of kin ns a_TooMany;exact⟨⟨_,g_NoOrder,e_NoOrder⟩,⟨_,⟨g_FillError,e_FillError⟩,(bi ⟨_,⟨g_NoOrder,e_NoOrder⟩,m_FillError_NoOrder⟩ bD)⟩,⟨_,g_NoNumber,bH (b8 y_NoNumber) (bi ⟨_,g_NoOrder,⟨ga_NoOrder,cl_NoOrder,gt_NoOrder,mo_NoOrder,mb_NoOrder⟩,k_NoNumber_NoOrder⟩ bD)⟩,⟨_,g_NoOrder,bH (b8 y_NoOrder) (bi ⟨_,g_NoOrder,⟨ga_NoOrder,cl_NoOrder,gt_NoOrder,mo_NoOrder,mb_NoOrder⟩,k_NoOrder_NoOrder⟩ bD)⟩,⟨_,g_NoParting,bH (b8 y_NoParting) (bi ⟨_,g_NoOrder,⟨ga_NoOrder,cl_NoOrder,gt_NoOrder,mo_NoOrder,mb_NoOrder⟩,k_NoParting_NoOrder⟩ bD)⟩,⟨_,g_NoPivot,bH (b8 y_NoPivot) (bi ⟨_,g_NoOrder,⟨ga_NoOrder,cl_NoOrder,gt_NoOrder,mo_NoOrder,mb_NoOrder⟩,k_NoPivot_NoOrder⟩ bD)⟩,⟨_,g_NoPlace,bH (b8 y_NoPlace) (bi ⟨_,g_NoOrder,⟨ga_NoOrder,cl_NoOrder,gt_NoOrder,mo_NoOrder,mb_NoOrder⟩,k_NoPlace_NoOrder⟩ bD)⟩,⟨_,g_NoRow,bH (b8 y_NoRow) (bi ⟨_,g_NoOrder,⟨ga_NoOrder,cl_NoOrder,gt_NoOrder,mo_NoOrder,mb_NoOrder⟩,k_NoRow_NoOrder⟩ bD)⟩,⟨_,g_NoSheet,bH (b8 y_NoSheet) (bi ⟨_,g_NoOrder,⟨ga_NoOrder,cl_NoOrder,gt_NoOrder,mo_NoOrder,mb_NoOrder⟩,k_NoSheet_NoOrder⟩ bD)⟩,⟨_,g_NoText,bH (b8 y_NoText) (bi ⟨_,g_NoOrder,⟨ga_NoOrder,cl_NoOrder,gt_NoOrder,mo_NoOrder,mb_NoOrder⟩,k_NoText_NoOrder⟩ bD)⟩,⟨_,g_NoWeb,bH (b8 y_NoWeb) (bi ⟨_,g_NoOrder,⟨ga_NoOrder,cl_NoOrder,gt_NoOrder,mo_NoOrder,mb_NoOrder⟩,k_NoWeb_NoOrder⟩ bD)⟩,⟨_,g_NoWord,bH (b8 y_NoWord) (bi ⟨_,g_NoOrder,⟨ga_NoOrder,cl_NoOrder,gt_NoOrder,mo_NoOrder,mb_NoOrder⟩,k_NoWord_NoOrder⟩ bD)⟩,⟨_,g_TooMany,bH (b8 y_TooMany) (bi ⟨_,g_NoOrder,⟨ga_NoOrder,cl_NoOrder,gt_NoOrder,mo_NoOrder,mb_NoOrder⟩,k_TooMany_NoOrder⟩ bD)⟩,bH (ty_VE K) (bi ⟨_,g_NoOrder,⟨ga_NoOrder,cl_NoOrder,gt_NoOrder,mo_NoOrder,mb_NoOrder⟩,k_ValueError_NoOrder⟩ bD)⟩
abbrev dL:Stmt:=top 14
abbrev jp:List Str:=["thing"]
abbrev jC:List Str:=["isinstance","int","bool"]
abbrev jI:List Str:=["thing"]
theorem qT(hsc:Sc X dL)(g:Gd X jp jC k)(dc:DefCx X)(n6:Nn X "isinstance")(n3:Nn X "bool")(n5:Nn X "int"):MSs X (aN dL) m_is_whole :=
 (au (aT (rG (jG g (i:=0) (j:=1) rfl n6 rfl n5 sK okT_int (kV g 0)) (rq (me_not (jG g (i:=0) (j:=2) rfl n6 rfl n3 pV lZ (kV g 0)))))))
abbrev dN:Stmt:=top 16
abbrev jR:List Str:=["n","thing"]
abbrev jq:List Str:=["is_whole"]
abbrev jt:List Str:=["n","thing"]
theorem qI(hsc:Sc X dN)(g:Gd X jR jq k)(dc:DefCx X)(c0:Cal X "is_whole" jI jy k):MSs X (aN dN) m_is_place :=
 (au (aT (rG (kCa g 0 c0 (aa (kV g 1) ah)) (rq (tK oj_le lT aj (kV g 1) (kV g 0))))))
abbrev dR:Stmt:=top 17
abbrev jV:List Str:=["web","thing"]
abbrev jH:List Str:=["isinstance","list","all","sorted","range"]
abbrev jL:List Str:=["web","thing"]
theorem qx(hsc:Sc X dR)(g:Gd X jV jH k)(dc:DefCx X)(c1:Cal X "is_place" jt jE k)(n12:Nn X "sorted")(n8:Nn X "list")(n11:Nn X "range")(n2:Nn X "all")(n6:Nn X "isinstance"):MSs X (aN dR) m_is_order :=
 (am (bQ (fA (fI (jG g (i:=0) (j:=1) rfl n6 rfl n8 ia tX (kV g 1)))) (au (aT dq)) bt)
 (am (bQ (fA (fI (kCb g 2 (rH g) n2 ss (aa (kCp g hsc ["place"] ["web"] ["is_place"] [0] (dw (kV g 1)) fun Y y g=>⟨(kNm g 0),fo,(kCa g 0 (y.c c1) (aa (kIx (kV g 1) aj) (aa (kV g 0) ah)))⟩) ah)))) (au (aT dq)) bt)
 (au (aT (kCm (jM g.room) (kCb g 3 sJ n12 qY (aa (kV g 1) ah)) (nV g (i:=1) (j:=4) rfl n8 rfl n11 (aa (kIx (kV g 0) aj) ah)))))))
abbrev cK:Stmt:=top 18
abbrev gF:List Str:=["web","thing"]
abbrev gG:List Str:=["is_order","NoOrder"]
abbrev gA:List Str:=["web","thing"]
theorem lE(hsc:Sc X cK)(g:Gd X gF gG k)(dc:DefCx X)(c2:Cal X "is_order" jL jF k)(cl:Cl X.K X.mg):MSs X (aN cK) m_check_order :=
 (au (bQ (fA (fI (kCa g 0 c2 (aa (kV g 0) (aa (kV g 1) ah))))) (au (rF g (j:=1) rfl cl.r_NoOrder (aa cg ah))) bt))
abbrev iC:Stmt:=top 20
abbrev o4:List Str:=["parents","order"]
abbrev pS:List Str:=["check_order","len","all","enumerate"]
abbrev pI:List Str:=["parents","order"]
theorem b_keeps(hsc:Sc X iC)(g:Gd X o4 pS k)(dc:DefCx X)(c3:Cal X "check_order" gA gE k)(n4:Nn X "enumerate")(n2:Nn X "all")(n7:Nn X "len"):MSs X (aN iC) m_keeps :=
 (am (iD (kCa g 0 c3 (aa (dr (aa (kCb g 1 cD n7 cB (aa (kV g 0) ah)) (aa (dr ah) ah))) (aa (kV g 1) ah))))
 (au (aT (kCb g 2 (rH g) n2 ss (aa (kCp g hsc ["k","place"] ["parents","order"] [] [0,1] (kEn g 3 n4 (aa (kV g 1) ah)) fun Y y g=>⟨(jA g (b9 (kNm g 0) (b9 (kNm g 1) ii))),fo,(kCm (oj_in g.room true) (kIx (kV g 2) (kV g 1)) (dG (kV g 3) cv (cy (kV g 0))))⟩) ah)))))
abbrev iu:Stmt:=top 22
abbrev oP:List Str:=["_law_script","_law_k","_law_cell"]
abbrev o5:List Str:=["min","len","abs"]
abbrev oS:List Str:=["_law_script","_law_k"]
theorem b_l_pen(hsc:Sc X iu)(g:Gd X oP o5 k)(dc:DefCx X)(n1:Nn X "abs")(n7:Nn X "len")(n10:Nn X "min"):MSs X (aN iu) m_l_pen :=
 (am (kSt g 2 (ao aL (ao d8 aj (kV g 1)) aj))
 (am (bQ (kTc lT (kV g 1) (kCb g 0 (mE g) n10 mW (aa (kCb g 1 cD n7 cB (aa (kV g 0) ah)) (aa aj ah)))) (au (kSt g 2 (kIx (kV g 0) (kV g 1)))) (au (bQ (kTc jk (kCb g 1 cD n7 cB (aa (kV g 0) ah)) aj) (au (kSt g 2 (ao aL (ao cA (kIx (kV g 0) (ao cA (kV g 1) (kCb g 0 (mE g) n10 mW (aa (kCb g 1 cD n7 cB (aa (kV g 0) ah)) (aa aj ah))))) (ao sR aj aj)) (ao d8 aj (kV g 1))))) bt)))
 (am (bQ (kTc oj_ge (kCb g 2 sh n1 rQ (aa (kV g 2) ah)) (ao sR aj aj)) (au (aT (aQ (aa aj (aa (kCb g 2 sh n1 rQ (aa (kV g 2) ah)) (aa aj ah)))))) bt)
 (au (aT (aQ (aa aj (aa (ao aL (ao cA (kV g 2) aj) (ao d8 aj (kV g 1))) (aa aj ah)))))))))
abbrev fV:Stmt:=top 23
abbrev m4:List Str:=["_law_pen_here","_law_size","_law_number","_law_drawn"]
abbrev nU:List Str:=[]
abbrev dh:List Str:=["_law_pen_here","_law_size"]
theorem uz(hsc:Sc X fV)(g:Gd X m4 nU k)(dc:DefCx X):MSs X (aN fV) m_l_draw :=
 (am (jg (ao aL (kIx (kV g 0) aj) aj) (jf (kV g 0) aj))
 (am (bQ (kTc (jM g.room) (kIx (kV g 0) aj) aj) (am (kSt g 3 (ao cA (kIx (kV g 0) aj) (kV g 1)))
 (am (jg (ao oj_fd (kIx (kV g 0) aj) (kV g 1)) (jf (kV g 0) aj))
 (au (aT (kV g 3))))) bt)
 (am (kSt g 2 (ao cA (ao d8 (ao aL (ao aL (kIx (kV g 0) aj) (ao d8 aj (kIx (kV g 0) aj))) aj) aj) aj))
 (am (kSt g 2 (ao cA (ao d8 (kV g 2) (ao aL (ao aL (ao cA (kV g 2) aj) (kIx (kV g 0) aj)) aj)) aj))
 (au (aT (ao cA (ao oj_fd (ao cA (ao d8 (kV g 2) (ao aL (ao cA (kV g 2) aj) aj)) aj) aj) (kV g 1))))))))
abbrev dE:Stmt:=top 24
abbrev jW:List Str:=["_law_script","_law_most"]
abbrev jv:List Str:=["max","min","len"]
abbrev jB:List Str:=["_law_script","_law_most"]
theorem qy(hsc:Sc X dE)(g:Gd X jW jv k)(dc:DefCx X)(n7:Nn X "len")(n10:Nn X "min")(n9:Nn X "max"):MSs X (aN dE) m_l_rounds :=
 (au (aT (kCb g 0 (cj_max g) n9 bt_max (aa aj (aa (kCb g 1 (mE g) n10 mW (aa (kCb g 2 cD n7 cB (aa (kV g 0) ah)) (aa (kV g 1) ah))) ah)))))
abbrev e7:Stmt:=top 25
abbrev lq:List Str:=["_law_pen_here","_law_n","_law_found","_law_k"]
abbrev ln:List Str:=["range","_law_draw"]
abbrev hX:List Str:=["_law_pen_here","_law_n"]
theorem sZ(hsc:Sc X e7)(g:Gd X lq ln k)(dc:DefCx X)(c6:Cal X "_law_draw" dh ba k)(n11:Nn X "range"):MSs X (aN e7) m_l_order :=
 (am (kSt g 2 (aQ ah))
 (am (gU g (kR1 g 0 n11 (aa (kV g 1) ah)) (kNm g 3) (au (iD (qe rK sM r9 (kV g 2) (aa (kCa g 1 c6 (aa (kV g 0) (aa (ao aL (kV g 3) aj) ah))) (aa (kV g 3) ah))))))
 (au (aT (kV g 2)))))
abbrev gm:Stmt:=top 29
abbrev nF:List Str:=["_law_caught","_law_some","_law_words"]
abbrev nW:List Str:=["isinstance","NoWeb","NoPlace","NoOrder","NoParting","NoNumber","TooMany","NoSheet","NoPivot","NoRow","NoText","NoWord","len","ValueError"]
abbrev nI:List Str:=["_law_caught"]
theorem tZ(hsc:Sc X gm)(g:Gd X nF nW k)(dc:DefCx X)(n6:Nn X "isinstance")(n0:Nn X "ValueError")(n7:Nn X "len")(cl:Cl X.K X.mg):MSs X (aN gm) m_l_kind :=
 (am (kSt g 1 (aQ (aa (dr (aa cg (aa (ir g (i:=0) (j:=1) rfl n6 rfl cl.i_NoWeb (kV g 0)) ah))) (aa (dr (aa cg (aa (ir g (i:=0) (j:=2) rfl n6 rfl cl.i_NoPlace (kV g 0)) ah))) ah))))
 (am (kSt g 1 (ao aL (kV g 1) (aQ (aa (dr (aa cg (aa (ir g (i:=0) (j:=3) rfl n6 rfl cl.i_NoOrder (kV g 0)) ah))) (aa (dr (aa cg (aa (ir g (i:=0) (j:=4) rfl n6 rfl cl.i_NoParting (kV g 0)) ah))) ah)))))
 (am (kSt g 1 (ao aL (kV g 1) (aQ (aa (dr (aa cg (aa (t7 g (i:=0) rfl n6 (cP g (j:=5) rfl cl.i_NoNumber (cP g (j:=6) rfl cl.i_TooMany (cP g (j:=7) rfl cl.i_NoSheet (cP g (j:=8) rfl cl.i_NoPivot (cP g (j:=9) rfl cl.i_NoRow (cP g (j:=10) rfl cl.i_NoText (cP g (j:=11) rfl cl.i_NoWord ics_nil))))))) cl.i_NoNumber (by decide) (kV g 0)) ah))) ah))))
 (am (kSc g hsc 2 ["_law_word","_law_one"] [] [] [] (dw (kV g 1)) fun Y y g=>⟨(jA g (b9 (kNm g 0) (b9 (kNm g 1) ii))),(kO (mt_tru (kV g 1))),(kV g 0)⟩)
 (am (bQ (MW.mt (lR (kTc (im g.room) (kCb g 12 cD n7 cB (aa (kV g 2) ah)) aj) (sB (fA (fI (me_isiB g (i:=0) (j:=13) rfl n6 rfl n0 lH cl.i_ValueError (kV g 0))))))) (au (aT cg)) bt)
 (au (aT (kIx (kV g 2) aj))))))))
abbrev fY:Stmt:=top 30
abbrev mH:List Str:=["_law_pen_here","_law_above_here","_law_left","_law_found","_law_free","_law_v"]
abbrev nL:List Str:=["list","range","len","_law_draw"]
abbrev mK:List Str:=["_law_pen_here","_law_above_here"]
theorem tO(hsc:Sc X fY)(g:Gd X mH nL k)(dc:DefCx X)(c6:Cal X "_law_draw" dh ba k)(n7:Nn X "len")(n8:Nn X "list")(n11:Nn X "range"):MSs X (aN fY) m_l_kept :=
 (am (kSt g 2 (nV g (i:=0) (j:=1) rfl n8 rfl n11 (aa (kCb g 2 cD n7 cB (aa (kV g 1) ah)) ah)))
 (am (kSt g 3 (aQ ah))
 (am (uF g (kTc (im g.room) (kV g 2) (aQ ah)) (am (kSq g hsc 4 ["_law_v"] ["_law_left","_law_above_here"] [] [2,1] (dw (kV g 2)) fun Y y hsc g=>⟨(kNm g 0),(kO (kTc (oj_eqL g.room) (kCp g hsc ["_law_other"] ["_law_v","_law_above_here"] [] [0,2] (dw (kV g 1)) fun Y z g=>⟨(kNm g 0),(kO (kTc (jM g.room) (kIx (kV g 2) (kV g 0)) (kV g 1))),(kV g 0)⟩) (aQ ah))),(kV g 0)⟩)
 (am (kSt g 5 (kIx (kV g 4) (kCa g 3 c6 (aa (kV g 0) (aa (kCb g 2 cD n7 cB (aa (kV g 4) ah)) ah)))))
 (am (iD (qe r6 sX sO (kV g 3) (aa (kV g 5) ah)))
 (au (iD (qe sH qZ rS (kV g 2) (aa (kV g 5) ah))))))))
 (au (aT (kV g 3))))))
abbrev e8:Stmt:=top 31
abbrev lv:List Str:=["_law_pen_here","_law_n","_law_order_here","_law_some","_law_found","_law_at","_law_v"]
abbrev lg:List Str:=["_law_order","_law_draw","enumerate"]
abbrev lf:List Str:=["_law_pen_here","_law_n"]
theorem q0(hsc:Sc X e8)(g:Gd X lv lg k)(dc:DefCx X)(c6:Cal X "_law_draw" dh ba k)(c8:Cal X "_law_order" hX eP k)(n4:Nn X "enumerate"):MSs X (aN e8) m_l_above :=
 (am (kSt g 2 (kCa g 0 c8 (aa (kV g 0) (aa (kV g 1) ah))))
 (am (kSt g 3 (kIx (aQ (aa aj (aa aj (aa aj ah)))) (kCa g 1 c6 (aa (kV g 0) (aa aj ah)))))
 (am (kSc g hsc 4 ["_law_v"] [] [] [] (dw (kV g 2)) fun Y y g=>⟨(kNm g 0),fo,eM⟩)
 (am (gU g (kEn g 2 n4 (aa (kV g 2) ah)) (jA g (b9 (kNm g 5) (b9 (kNm g 6) ii))) (au (bQ (MW.mt (rR (kTc lT (ao aL (kV g 5) aj) (kV g 1)) (oK (kTc jk (kCa g 1 c6 (aa (kV g 0) (aa (ao aL (kV g 3) aj) ah))) aj)))) (au (jg (kIx (kV g 2) (ao aL (ao aL (kV g 5) aj) (kCa g 1 c6 (aa (kV g 0) (aa (ao jh (ao jh (kV g 1) (kV g 5)) aj) ah))))) (jf (kV g 4) (kV g 6)))) bt)))
 (au (aT (kV g 4)))))))
abbrev eS:Stmt:=top 32
abbrev lw:List Str:=["_law_above_here","_law_order_here","_law_at","_law_v"]
abbrev lj:List Str:=["enumerate"]
abbrev lA:List Str:=["_law_above_here","_law_order_here"]
theorem rY(hsc:Sc X eS)(g:Gd X lw lj k)(dc:DefCx X)(n4:Nn X "enumerate"):MSs X (aN eS) m_l_holds :=
 (am (gU g (kEn g 0 n4 (aa (kV g 1) ah)) (jA g (b9 (kNm g 2) (b9 (kNm g 3) ii))) (au (bQ (MW.mt (rR (kTc oj_isn (kIx (kV g 0) (kV g 3)) eM) (oK (kTc (oj_in g.room true) (kIx (kV g 0) (kV g 3)) (dG (kV g 1) (cy (ao aL (kV g 2) aj)) cv))))) (au (aT dq)) bt)))
 (au (aT dq)))
abbrev fS:Stmt:=top 33
abbrev l0:List Str:=["_law_above_here","_law_order_here","_law_caught","_law_found","e"]
abbrev mq:List Str:=["keeps","FillError","_law_kind"]
abbrev mY:List Str:=["_law_above_here","_law_order_here"]
theorem tP(hsc:Sc X fS)(g:Gd X l0 mq k)(dc:DefCx X)(c9:Cal X "_law_kind" nI mS k)(c4:Cal X "keeps" pI oX k)(cl:Cl X.K X.mg):MSs X (aN fS) m_l_told :=
 (am (kSt g 2 eM)
 (am (kSt g 3 eM)
 (am (ms_tryE g dc (j:=1) rfl cl.t_FillError 2 4 rfl rfl rfl rfl (by rw[hsc];decide +kernel) (fun Y y1 y2 y3 y4 y5 y6 g dc=>have c4:=c4.at y1 y2 y3 y4 y5;(au (kSt g 3 (kCa g 0 c4 (aa (kV g 0) (aa (kV g 1) ah)))))) (by revert hsc;unfold Sc;generalize X.env=env;intro h;cases env;cases h;rfl))
 (am (bQ (kTc oj_is (kV g 2) eM) (au (aT (kV g 3))) bt)
 (au (aT (kCa g 2 c9 (aa (kV g 2) ah))))))))
abbrev cI:Stmt:=top 34
abbrev gz:List Str:=["_law_pen_here","_law_order_here","_law_n","_law_some"]
abbrev gB:List Str:=["len","tuple","_law_draw"]
abbrev gD:List Str:=["_law_pen_here","_law_order_here"]
theorem lF(hsc:Sc X cI)(g:Gd X gz gB k)(dc:DefCx X)(c6:Cal X "_law_draw" dh ba k)(n7:Nn X "len")(n5:Nn X "int")(n13:Nn X "tuple"):MSs X (aN cI) m_l_bad_order :=
 (am (kSt g 2 (kCb g 0 cD n7 cB (aa (kV g 1) ah)))
 (am (kSt g 3 (aQ (aa (kCt g 1 uy n13 tw (aa (kV g 1) ah)) (aa (ao aL (kV g 1) (aQ (aa (kV g 2) ah))) (aa (ao aL (kV g 1) (aQ (aa eM ah))) (aa eM (aa cg (aa me_dic0 (aa (kV g 2) (aa (aQ (aa (kV g 1) ah)) (aa (ao aL (kV g 1) (aQ (aa (me_un sQ aj) ah))) (aa (aQ (aa (aQ ah) ah)) (aa (aQ (aa cg ah)) (aa (aQ (aa dq ah)) (aa aj ah)))))))))))))))
 (am (bQ (kTc jk (kV g 2) aj) (am (kSt g 3 (ao aL (kV g 3) (aQ (aa (dG (kV g 1) (cy aj) cv) (aa (ao aL (dG (kV g 1) (cy aj) cv) (aQ (aa (kV g 2) ah))) (aa (ao aL (dG (kV g 1) (cy aj) cv) (aQ (aa (me_un sQ aj) ah))) (aa (ao aL (dG (kV g 1) cv (cy (ao jh (kV g 2) aj))) (aQ (aa cg ah))) (aa (ao aL (kV g 1) (dG (kV g 1) cv (cy aj))) ah))))))))
 (au (kSt g 3 (ao aL (kV g 3) (aQ (aa (kCp g hsc ["_law_v"] [] ["int"] [] (dw (kV g 1)) fun Y y g=>⟨(kNm g 0),fo,(kIx (aQ (aa (kV g 0) (aa (kCm jk (kV g 0) aj) ah))) (kCt g 0 cj_int (y.n n5) sK (aa (kCm lT (kV g 0) aj) ah)))⟩) (aa (kCp g hsc ["_law_v"] [] [] [] (dw (kV g 1)) fun Y y g=>⟨(kNm g 0),fo,(ao aL (kV g 0) aj)⟩) (aa (aQ ah) (aa (dr ah) ah))))))))) bt)
 (au (aT (kIx (kV g 3) (kCa g 2 c6 (aa (kV g 0) (aa (kCb g 0 cD n7 cB (aa (kV g 3) ah)) ah)))))))))
abbrev eO:Stmt:=top 35
abbrev lC:List Str:=["_law_pen_here","_law_n","_law_above_here","_law_kept_here","_law_orders","_law_handed","_law_order_here","_law_at","_law_given","_law_found"]
abbrev lm:List Str:=["_law_draw","_law_above","_law_kept","_law_order","list","_law_told","isinstance","bool","_law_holds","_law_bad_order"]
abbrev k9:List Str:=["_law_pen_here"]
theorem sv(hsc:Sc X eO)(g:Gd X lC lm k)(dc:DefCx X)(c13:Cal X "_law_told" mY fO k)(c14:Cal X "_law_bad_order" gD gw k)(c12:Cal X "_law_holds" lA lD k)(c6:Cal X "_law_draw" dh ba k)(c8:Cal X "_law_order" hX eP k)(c10:Cal X "_law_kept" mK mm k)(c11:Cal X "_law_above" lf kT k)(n6:Nn X "isinstance")(n3:Nn X "bool")(n8:Nn X "list"):MSs X (aN eO) m_l_right :=
 (am (kSt g 1 (kCa g 0 c6 (aa (kV g 0) (aa aj ah))))
 (am (kSt g 2 (kCa g 1 c11 (aa (kV g 0) (aa (kV g 1) ah))))
 (am (kSt g 3 (kCa g 2 c10 (aa (kV g 0) (aa (kV g 2) ah))))
 (am (kSt g 4 (aQ (aa (kV g 3) (aa (kCa g 3 c8 (aa (kV g 0) (aa (kV g 1) ah))) (aa (kCt g 4 kG n8 ia (aa (kV g 3) ah)) ah)))))
 (am (bQ (kTc jk (kV g 1) aj) (am (kSt g 7 (kCa g 0 c6 (aa (kV g 0) (aa (ao jh (kV g 1) aj) ah))))
 (au (jg (ao aL (ao aL (dG (kV g 3) cv (cy (kV g 7))) (aQ (aa (kIx (kV g 3) (ao aL (kV g 7) aj)) (aa (kIx (kV g 3) (kV g 7)) ah)))) (dG (kV g 3) (cy (ao aL (kV g 7) aj)) cv)) (jf (kV g 4) aj)))) bt)
 (am (kSt g 5 (kCt g 4 kG n8 ia (aa (kV g 2) ah)))
 (am (gU g (dw (kV g 4)) (kNm g 6) (am (kSt g 8 (kCt g 4 kG n8 ia (aa (kV g 6) ah)))
 (am (kSt g 9 (kCa g 5 c13 (aa (kV g 5) (aa (kV g 8) ah))))
 (am (bQ (MW.mt (lR (fA (fI (jG g (i:=6) (j:=7) rfl n6 rfl n3 pV lZ (kV g 9)))) (lR (kTc (im g.room) (kV g 9) (kCa g 8 c12 (aa (kV g 2) (aa (kV g 6) ah)))) (lR (kTc (im g.room) (kV g 8) (kV g 6)) (sB (kTc (im g.room) (kV g 5) (kV g 2))))))) (au (aT dq)) bt)
 (au (bQ (kTc (im g.room) (kCa g 5 c13 (aa (kV g 5) (aa (kCa g 9 c14 (aa (kV g 0) (aa (kV g 6) ah))) ah))) cg) (au (aT dq)) bt))))))
 (au (aT (kCm oj_is (kCa g 5 c13 (aa (kV g 5) (aa (kV g 3) ah))) dq))))))))))
abbrev jz:Stmt:=top 36
abbrev N_law:List Str:=["_law_script","_law_k"]
abbrev G_law:List Str:=["range","_law_rounds","_law_right","_law_pen"]
abbrev P_law:List Str:=["_law_script"]
theorem b_law(hsc:Sc X jz)(g:Gd X N_law G_law k)(dc:DefCx X)(c7:Cal X "_law_rounds" jB cX k)(c5:Cal X "_law_pen" oS fu k)(c15:Cal X "_law_right" k9 du k)(n11:Nn X "range"):MSs X (aN jz) m_law :=
 (am (gU g (kR1 g 0 n11 (aa (kCa g 1 c7 (aa (kV g 0) (aa aj ah))) ah)) (kNm g 1) (au (bQ (fA (fI (kCa g 2 c15 (aa (kCa g 3 c5 (aa (kV g 0) (aa (kV g 1) ah))) ah)))) (au (aT dq)) bt)))
 (au (aT dq)))
theorem bi_law:ie "law" jz P_law:=fun _ _ _ _ _ _=>ar1 fun _=>rfl
theorem all_fn{K:qaa}(b:Ba P w K mg base)
  (D0:DefAt K "is_whole" dL)
  (D1:DefAt K "is_place" dN)
  (D2:DefAt K "is_order" dR)
  (D3:DefAt K "check_order" cK)
  (D4:DefAt K "keeps" iC)
  (D5:DefAt K "_law_pen" iu)
  (D6:DefAt K "_law_draw" fV)
  (D7:DefAt K "_law_rounds" dE)
  (D8:DefAt K "_law_order" e7)
  (D9:DefAt K "_law_kind" gm)
  (D10:DefAt K "_law_kept" fY)
  (D11:DefAt K "_law_above" e8)
  (D12:DefAt K "_law_holds" eS)
  (D13:DefAt K "_law_told" fS)
  (D14:DefAt K "_law_bad_order" cI)
  (D15:DefAt K "_law_right" eO)
  (D16:DefAt K "law" jz)
  (z0:Zn K "ValueError")
  (z1:Zn K "abs")
  (z2:Zn K "all")
  (z3:Zn K "bool")
  (z4:Zn K "enumerate")
  (z5:Zn K "int")
  (z6:Zn K "isinstance")
  (z7:Zn K "len")
  (z8:Zn K "list")
  (z9:Zn K "max")
  (z10:Zn K "min")
  (z11:Zn K "range")
  (z12:Zn K "sorted")
  (z13:Zn K "tuple")
  (cl:Cl K mg)
   :FnAt P w K mg base "law" P_law f_law 8:=by
 have a0:=fnN (k:=0) (N:=jp) (G:=jC) (ps:=jI) b D0 fun X e h g d=>qT h g d (e.n z6) (e.n z3) (e.n z5);have a1:=fnN (k:=1) (N:=jR) (G:=jq) (ps:=jt) b D1 fun X e h g d=>qI h g d (a0.c e);have a2:=fnN (k:=2) (N:=jV) (G:=jH) (ps:=jL) b D2 fun X e h g d=>qx h g d (a1.c e) (e.n z12) (e.n z8) (e.n z11) (e.n z2) (e.n z6);have a3:=fnN (k:=3) (N:=gF) (G:=gG) (ps:=gA) b D3 fun X e h g d=>lE h g d (a2.c e) (e.e3▸e.e4▸cl);have a4:=fnN (k:=4) (N:=o4) (G:=pS) (ps:=pI) b D4 fun X e h g d=>b_keeps h g d (a3.c e) (e.n z4) (e.n z2) (e.n z7);have a5:=fnN (k:=0) (N:=oP) (G:=o5) (ps:=oS) b D5 fun X e h g d=>b_l_pen h g d (e.n z1) (e.n z7) (e.n z10);have a6:=fnN (k:=0) (N:=m4) (G:=nU) (ps:=dh) b D6 fun X e h g d=>uz h g d;have a7:=fnN (k:=0) (N:=jW) (G:=jv) (ps:=jB) b D7 fun X e h g d=>qy h g d (e.n z7) (e.n z10) (e.n z9);have a8:=fnN (k:=1) (N:=lq) (G:=ln) (ps:=hX) b D8 fun X e h g d=>sZ h g d (a6.c e) (e.n z11);have a9:=fnN (k:=0) (N:=nF) (G:=nW) (ps:=nI) b D9 fun X e h g d=>tZ h g d (e.n z6) (e.n z0) (e.n z7) (e.e3▸e.e4▸cl);have a10:=fnN (k:=1) (N:=mH) (G:=nL) (ps:=mK) b D10 fun X e h g d=>tO h g d (a6.c e) (e.n z7) (e.n z8) (e.n z11);have a11:=fnN (k:=2) (N:=lv) (G:=lg) (ps:=lf) b D11 fun X e h g d=>q0 h g d (a6.c e) (a8.c e) (e.n z4);have a12:=fnN (k:=0) (N:=lw) (G:=lj) (ps:=lA) b D12 fun X e h g d=>rY h g d (e.n z4);have a13:=fnN (k:=5) (N:=l0) (G:=mq) (ps:=mY) b D13 fun X e h g d=>tP h g d (a9.c e) (a4.c e) (e.e3▸e.e4▸cl);have a14:=fnN (k:=1) (N:=gz) (G:=gB) (ps:=gD) b D14 fun X e h g d=>lF h g d (a6.c e) (e.n z7) (e.n z5) (e.n z13);have a15:=fnN (k:=6) (N:=lC) (G:=lm) (ps:=k9) b D15 fun X e h g d=>sv h g d (a13.c e) (a14.c e) (a12.c e) (a6.c e) (a8.c e) (a10.c e) (a11.c e) (e.n z6) (e.n z3) (e.n z8);have a16:=fnN (k:=7) (N:=N_law) (G:=G_law) (ps:=P_law) b D16 fun X e h g d=>b_law h g d (a7.c e) (a5.c e) (a15.c e) (e.n z11);exact a16
end Law
namespace PySem.W.Fast
theorem tw10650402882345045103:True:=⟨⟩
theorem tw3829042528841082252:True:=⟨⟩
theorem tw147710028505047600:True:=⟨⟩
theorem tw16397772079248525647:True:=⟨⟩
theorem tw13566996602387998903:True:=⟨⟩
theorem tw5141943348932653066:True:=⟨⟩
theorem tw17716336097344056721:True:=⟨⟩
theorem tw13693100264421412855:True:=⟨⟩
theorem tw9777644239380840410:True:=⟨⟩
theorem tw4886663547103176467:True:=⟨⟩
theorem tw8535971305179339259:True:=⟨⟩
theorem tw10471781516998689701:True:=⟨⟩
theorem tw12570978490398258137:True:=⟨⟩
theorem tw17152133635017598857:True:=⟨⟩
theorem tw10504925278510433051:True:=⟨⟩
theorem tw11532293514465123459:True:=⟨⟩
theorem tw11394464602056348058:True:=⟨⟩
theorem tw6455030193277061474:True:=⟨⟩
theorem tw15358098662311883816:True:=⟨⟩
theorem tw9805348795214947187:True:=⟨⟩
theorem tw14571959553824263463:True:=⟨⟩
theorem tw14590913665314771277:True:=⟨⟩
theorem tw5769269863976036528:True:=⟨⟩
theorem tw14199504493370645310:True:=⟨⟩
theorem tw8132969234770280383:True:=⟨⟩
theorem tw13966079233228737204:True:=⟨⟩
theorem tw2525388388956247617:True:=⟨⟩
theorem tw6176895218148296142:True:=⟨⟩
theorem tw9969875423326113468:True:=⟨⟩
theorem tw530975244307491752:True:=⟨⟩
theorem tw14047282439199063296:True:=⟨⟩
theorem tw14555056231157015491:True:=⟨⟩
theorem tw16159618892000823833:True:=⟨⟩
theorem tw16760696856163956658:True:=⟨⟩
theorem tw4768174057825477176:True:=⟨⟩
theorem tw14410950744688192078:True:=⟨⟩
theorem tw11334444214998828385:True:=⟨⟩
theorem tw3794615592628927182:True:=⟨⟩
theorem tw18279253801816792707:True:=⟨⟩
theorem tw10167673000515416121:True:=⟨⟩
theorem tw8324142697598774376:True:=⟨⟩
theorem tw6681424571996570765:True:=⟨⟩
theorem tw12537704367072273626:True:=⟨⟩
theorem tw9565409084671103021:True:=⟨⟩
theorem tw3896143680968125357:True:=⟨⟩
theorem tw2275044005009386018:True:=⟨⟩
theorem tw2348764380387095595:True:=⟨⟩
theorem tw14143215512755733010:True:=⟨⟩
theorem tw9692660698357468783:True:=⟨⟩
theorem tw10257471970137552616:True:=⟨⟩
theorem tw2449299774981691175:True:=⟨⟩
theorem tw570252369003393488:True:=⟨⟩
theorem tw15457295336703649358:True:=⟨⟩
theorem tw10703175704394293218:True:=⟨⟩
theorem tw833018793723534795:True:=⟨⟩
theorem tw16425587424334663316:True:=⟨⟩
theorem tw6664104921349288532:True:=⟨⟩
theorem tw6806790175161824147:True:=⟨⟩
theorem tw5215994208645398912:True:=⟨⟩
theorem tw1598164004010410190:True:=⟨⟩
theorem tw12632841754149170132:True:=⟨⟩
theorem tw18410335798509728928:True:=⟨⟩
theorem tw11092618965676857436:True:=⟨⟩
theorem tw18087999188349751132:True:=⟨⟩
theorem tw6047630721113870803:True:=⟨⟩
theorem tw652063113856758683:True:=⟨⟩
theorem tw9867838793044368296:True:=⟨⟩
theorem tw4547505101701535944:True:=⟨⟩
theorem tw1502306687172437295:True:=⟨⟩
theorem tw13567453918720659801:True:=⟨⟩
theorem tw4044322354121139381:True:=⟨⟩
theorem tw5352827453122162498:True:=⟨⟩
theorem tw15495714289211497332:True:=⟨⟩
theorem tw16102035484202159466:True:=⟨⟩
theorem tw14919239662104389390:True:=⟨⟩
theorem tw13922260846752822420:True:=⟨⟩
theorem tw4995909794916760917:True:=⟨⟩
theorem tw17140633808639633758:True:=⟨⟩
theorem tw7363832427178432282:True:=⟨⟩
theorem tw10007864567187162513:True:=⟨⟩
theorem tw5681129330453037281:True:=⟨⟩
theorem tw16546784215386954077:True:=⟨⟩
theorem tw4861718541357119723:True:=⟨⟩
end PySem.W.Fast
open PySem PySem.W PyProof.Rows
local macro_rules | `(tactic| and_intros) => `(tactic| (dsimp only [L2.KOf]; first | k_is | (refine' MM.defAt_mk ?a ?l ?c ?k; (case a => k_is); (case l => k_is); (case c => k_is); (case k => k_is))))
set_option maxRecDepth 100000 in
set_option maxHeartbeats 0 in
theorem PySem.Challenge.cw_fewfills_k11_orders_that_keep_holds : PySem.Challenge.rw_fewfills_k11_orders_that_keep.Holds := by
  w_on; o_law; k_head; (case hw=>w_witness2)
  k_fill
  refine MM.walk_M (l:=PySem.Challenge.rw_fewfills_k11_orders_that_keep) (k:=8) (x:="_law_script") (F:=Law.f_law) rfl rfl ⟨rfl,by decide,by decide,rfl⟩ (fun w h Y=>PySem.W.kIn_of Y) ?F Law.law_true
  case F=>
    intro w mg fa h KX G hmg
    have Dlaw:MM.DefAt (L2.KOf KX) "law" Law.jz:=by and_intros
    have D0:MM.DefAt (L2.KOf KX) "is_whole" Law.dL:=by and_intros
    have D1:MM.DefAt (L2.KOf KX) "is_place" Law.dN:=by and_intros
    have D2:MM.DefAt (L2.KOf KX) "is_order" Law.dR:=by and_intros
    have D3:MM.DefAt (L2.KOf KX) "check_order" Law.cK:=by and_intros
    have D4:MM.DefAt (L2.KOf KX) "keeps" Law.iC:=by and_intros
    have D5:MM.DefAt (L2.KOf KX) "_law_pen" Law.iu:=by and_intros
    have D6:MM.DefAt (L2.KOf KX) "_law_draw" Law.fV:=by and_intros
    have D7:MM.DefAt (L2.KOf KX) "_law_rounds" Law.dE:=by and_intros
    have D8:MM.DefAt (L2.KOf KX) "_law_order" Law.e7:=by and_intros
    have D9:MM.DefAt (L2.KOf KX) "_law_kind" Law.gm:=by and_intros
    have D10:MM.DefAt (L2.KOf KX) "_law_kept" Law.fY:=by and_intros
    have D11:MM.DefAt (L2.KOf KX) "_law_above" Law.e8:=by and_intros
    have D12:MM.DefAt (L2.KOf KX) "_law_holds" Law.eS:=by and_intros
    have D13:MM.DefAt (L2.KOf KX) "_law_told" Law.fS:=by and_intros
    have D14:MM.DefAt (L2.KOf KX) "_law_bad_order" Law.cI:=by and_intros
    have D15:MM.DefAt (L2.KOf KX) "_law_right" Law.eO:=by and_intros
    have ZValueError:PySem.W.nsIn (L2.KOf KX) mainGlobals "ValueError" = some none:=by and_intros
    have Z16:PySem.W.nsIn (L2.KOf KX) mainGlobals "abs" = some none:=by and_intros
    have Z17:PySem.W.nsIn (L2.KOf KX) mainGlobals "all" = some none:=by and_intros
    have Z18:PySem.W.nsIn (L2.KOf KX) mainGlobals "bool" = some none:=by and_intros
    have Z19:PySem.W.nsIn (L2.KOf KX) mainGlobals "enumerate" = some none:=by and_intros
    have Z20:PySem.W.nsIn (L2.KOf KX) mainGlobals "int" = some none:=by and_intros
    have Z21:PySem.W.nsIn (L2.KOf KX) mainGlobals "isinstance" = some none:=by and_intros
    have Z22:PySem.W.nsIn (L2.KOf KX) mainGlobals "len" = some none:=by and_intros
    have Z23:PySem.W.nsIn (L2.KOf KX) mainGlobals "list" = some none:=by and_intros
    have Z24:PySem.W.nsIn (L2.KOf KX) mainGlobals "max" = some none:=by and_intros
    have Z25:PySem.W.nsIn (L2.KOf KX) mainGlobals "min" = some none:=by and_intros
    have Z26:PySem.W.nsIn (L2.KOf KX) mainGlobals "range" = some none:=by and_intros
    have Z27:PySem.W.nsIn (L2.KOf KX) mainGlobals "sorted" = some none:=by and_intros
    have Z28:PySem.W.nsIn (L2.KOf KX) mainGlobals "tuple" = some none:=by and_intros
    have CL:Law.ClK (L2.KOf KX):=by
      dsimp only [L2.KOf]
      refine' Law.clK_mk ?p0 ?p1 ?p2 ?p3 ?p4 ?p5 ?p6 ?p7 ?p8 ?p9 ?p10 ?p11 ?p12 ?p13 ?p14 ?p15 ?p16 ?p17 ?p18 ?p19 ?p20 ?p21 ?p22 ?p23 ?p24 ?p25 ?p26 ?p27 ?p28 ?p29 ?p30 ?p31 ?p32 ?p33 ?p34 ?p35 ?p36 ?p37 ?p38 ?p39 ?p40 ?p41 ?p42
      (case p0=>k_is)
      (case p1=>k_is)
      (case p2=>k_is)
      (case p3=>k_is)
      (case p4=>k_is)
      (case p5=>k_is)
      (case p6=>k_is)
      (case p7=>k_is)
      (case p8=>k_is)
      (case p9=>k_is)
      (case p10=>k_is)
      (case p11=>k_is)
      (case p12=>k_exc)
      (case p13=>k_exc)
      (case p14=>k_is)
      (case p15=>k_is)
      (case p16=>k_is)
      (case p17=>k_is)
      (case p18=>k_is)
      (case p19=>k_is)
      (case p20=>kit_is)
      (case p21=>kit_is)
      (case p22=>kit_is)
      (case p23=>kit_is)
      (case p24=>kit_is)
      (case p25=>kit_is)
      (case p26=>kit_is)
      (case p27=>kit_is)
      (case p28=>kit_is)
      (case p29=>kit_is)
      (case p30=>kit_is)
      (case p31=>kit_is)
      (case p32=>kit_is)
      (case p33=>kit_is)
      (case p34=>kit_is)
      (case p35=>kit_is)
      (case p36=>kit_is)
      (case p37=>kit_is)
      (case p38=>kit_is)
      (case p39=>kit_is)
      (case p40=>kit_is)
      (case p41=>kit_is)
      (case p42=>kit_is)
    exact MM.head_M Dlaw Law.bi_law hmg KX G fun base kb nb=>Law.all_fn ⟨kb,nb⟩ D0 D1 D2 D3 D4 D5 D6 D7 D8 D9 D10 D11 D12 D13 D14 D15 Dlaw ZValueError Z16 Z17 Z18 Z19 Z20 Z21 Z22 Z23 Z24 Z25 Z26 Z27 Z28  (CL _ _ kb nb)
